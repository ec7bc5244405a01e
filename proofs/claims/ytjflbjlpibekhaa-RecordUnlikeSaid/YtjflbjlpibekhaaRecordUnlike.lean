/-
  RecordUnlike: records that are right, and unlike, are written as unlike bytes: for every input the statement's function returns true, and leaves what came in as it was.
-/
import Derived.Test.YtjflbjlpibekhaaRecRaw
import Derived.Test.YtjflbjlpibekhaaRecEnc
namespace Go.Proofs.Ytjflbjlpibekhaa
set_option maxRecDepth 100000
open Go.ChangeShapes Go.WideShapes Go.ChangeAt Go.RowKit

set_option maxHeartbeats 8000000 in
theorem recordUnlike_walk (v u : Value) (a b : Rec.R) (W : World) (hv : IsRec W v a) (hu : IsRec W u b) :
    Calls Try.prog 9 #[v, u] W fun e W' => e = .returned (.bool true) ∧ Below W.heap.size W W' := by
  have hbx := box_rec
  have HV := Lib.hid hv
  have HU := Lib.hid hu
  obtain ⟨p1, m1, k1, rfl⟩ := hv.shape
  obtain ⟨p2, m2, k2, rfl⟩ := hu.shape
  clear hv hu
  have hh := heap_two W (.cells #[.int .i64 a.client, .int .i64 a.number, .slice p1 m1 k1, .string ⟨a.data.toArray⟩] 26) (.cells #[.int .i64 b.client, .int .i64 b.number, .slice p2 m2 k2, .string ⟨b.data.toArray⟩] 26)
  have hE0 : Ext W ((W.alloc (.cells #[.int .i64 a.client, .int .i64 a.number, .slice p1 m1 k1, .string ⟨a.data.toArray⟩] 26)).alloc (.cells #[.int .i64 b.client, .int .i64 b.number, .slice p2 m2 k2, .string ⟨b.data.toArray⟩] 26)) := ext_two _ _ _
  have HA0 := Lib.hid hh.1
  have HB0 := Lib.hid hh.2
  clear hh
  cases hra : Rec.right a with
  | false =>
    cases hrb : Rec.right b with
    | false =>
      have HRA := Lib.hid hra
      have HRB := Lib.hid hrb
      clear hra hrb
      go_enter Try.func9, Try.ntmps9
      go_wp2_with fail
      refine (encode4_wrong _ a _ HRA.out (HV.out.below hE0)).mono ?_
      rintro e w1 ⟨v1, rfl, hb1, hE1⟩
      obtain ⟨a1, n1, c1, rfl⟩ := hb1.isSlice
      obtain ⟨y0, y1, y2, y3⟩ := cells4 (heap_ext HB0.out hE1)
      go_wp2_with fail
      refine (encode4_wrong _ b _ HRB.out (HU.out.below (hE0.trans hE1))).mono ?_
      rintro e w2 ⟨v2, rfl, hb2, hE2⟩
      obtain ⟨a2, n2, c2, rfl⟩ := hb2.isSlice
      have HB1 := Lib.hid (hb1.below hE2)
      have HB2 := Lib.hid hb2
      have XA := Lib.hid (heap_ext (heap_ext HA0.out hE1) hE2)
      have XB := Lib.hid (heap_ext (heap_ext HB0.out hE1) hE2)
      have hE3 := (hE0.trans hE1).trans hE2
      have HV2 := Lib.hid (HV.out.below hE3)
      have HU2 := Lib.hid (HU.out.below hE3)
      clear y0 y1 y2 y3 hb1 hb2
      go_wp2_with fail
      generalize W.heap.size = h0 at *
      refine wp_region_facts (by kernel_rfl) Ext (fun iop v w => match iop with
          | 0 => v = .bool true
          | 1 => v = .bool true
          | 2 => v = .int .i64 40
          | 3 => v = .bool true
          | 4 => v = .bool true
          | 5 => v = undef
          | 6 => v = undef
          | 7 => v = .bool true
          | 8 => v = .bool true
          | 9 => v = undef
          | 10 => v = undef
          | 11 => v = undef
          | 12 => v = undef
          | 13 => v = undef
          | 14 => v = undef
          | 15 => v = undef
          | 16 => v = undef
          | 17 => v = undef
          | 18 => v = .bool true
          | 19 => v = .bool true
          | _ => v = .bool true
          ) (by kernel_rfl) (fun _ _ _ h k => Ext.trans h k) (fun a => Ext.refl a) (Ext.drew _) ?_ ?_ ?_
      · intro iop v wa wb hF hL
        cases iop with
        | zero => exact hF
        | succ iop =>
          cases iop with
          | zero => exact hF
          | succ iop =>
            cases iop with
            | zero => exact hF
            | succ iop =>
              cases iop with
              | zero => exact hF
              | succ iop =>
                cases iop with
                | zero => exact hF
                | succ iop =>
                  cases iop with
                  | zero => exact hF
                  | succ iop =>
                    cases iop with
                    | zero => exact hF
                    | succ iop =>
                      cases iop with
                      | zero => exact hF
                      | succ iop =>
                        cases iop with
                        | zero => exact hF
                        | succ iop =>
                          cases iop with
                          | zero => exact hF
                          | succ iop =>
                            cases iop with
                            | zero => exact hF
                            | succ iop =>
                              cases iop with
                              | zero => exact hF
                              | succ iop =>
                                cases iop with
                                | zero => exact hF
                                | succ iop =>
                                  cases iop with
                                  | zero => exact hF
                                  | succ iop =>
                                    cases iop with
                                    | zero => exact hF
                                    | succ iop =>
                                      cases iop with
                                      | zero => exact hF
                                      | succ iop =>
                                        cases iop with
                                        | zero => exact hF
                                        | succ iop =>
                                          cases iop with
                                          | zero => exact hF
                                          | succ iop =>
                                            cases iop with
                                            | zero => exact hF
                                            | succ iop =>
                                              cases iop with
                                              | zero => exact hF
                                              | succ iop =>
                                                exact hF
      · refine Obls.cons ?_ (Obls.cons ?_ (Obls.cons ?_ (Obls.cons ?_ (Obls.cons ?_ (Obls.cons ?_ (Obls.cons ?_ (Obls.cons ?_ (Obls.cons ?_ (Obls.cons ?_ (Obls.cons ?_ (Obls.cons ?_ (Obls.cons ?_ (Obls.cons ?_ (Obls.cons ?_ (Obls.cons ?_ (Obls.cons ?_ (Obls.cons ?_ (Obls.cons ?_ (Obls.cons ?_ (Obls.cons ?_ (Obls.nil)))))))))))))))))))))
        · intro ev wy hp hl hk hd
          clear hk
          clear hd
          refine Yield.call rfl hp Try.func13 rfl (by kernel_rfl) ?_
          simp only [List.map_toArray, List.map_nil]
          exact (recAlive_any wy).mono fun _ _ ⟨he, hb⟩ => ⟨_, he, hb, by first | rfl | simp⟩
        · intro ev wy hp hl hk hd
          have e19 : ev (.tmp 19) = .bool true := hk 19 (by decide)
          clear hk
          clear hd
          exact Yield.mv rfl ⟨Ext.refl _, e19⟩
        · intro ev wy hp hl hk hd
          have e6 : ev (.tmp 6) = .int .i64 40 := hk 6 (by decide)
          clear hk
          refine ⟨fun _ _ _ => ?_, fun _ hx hne => absurd hx hne⟩
          clear hd
          exact Yield.mv rfl ⟨Ext.refl _, e6⟩
        · intro ev wy hp hl hk hd
          have e21 : ev (.tmp 21) = .int .i64 40 := hk 21 (by decide)
          clear hk
          refine ⟨fun _ _ _ => ?_, fun _ hx hne => absurd hx hne⟩
          clear hd
          exact Yield.op (v := .bool true) (w' := wy) (by simp [execOp, go_sem, e21, hp.const]) ⟨Ext.refl _, rfl⟩
        · intro ev wy hp hl hk hd
          have e22 : ev (.tmp 22) = .bool true := hk 22 (by decide)
          clear hk
          refine ⟨fun _ _ _ => ?_, fun _ hx hne => absurd hx hne⟩
          clear hd
          exact Yield.mv rfl ⟨Ext.refl _, e22⟩
        · intro ev wy hp hl hk hd
          have e8 : ev (.tmp 8) = .int .i64 40 := hk 8 (by decide)
          clear hk
          exact ⟨fun x hx he => (by rw [show x = .bool true from hx] at he; cases he), fun _ _ _ => rfl⟩
        · intro ev wy hp hl hk hd
          have e24 : ev (.tmp 24) = undef := hk 24 (by decide)
          clear hk
          exact ⟨fun x hx he => (by rw [show x = .bool true from hx] at he; cases he), fun _ _ _ => rfl⟩
        · intro ev wy hp hl hk hd
          have e23 : ev (.tmp 23) = .bool true := hk 23 (by decide)
          have e25 : ev (.tmp 25) = undef := hk 25 (by decide)
          clear hk
          refine ⟨fun _ _ _ => ?_, fun _ hx hne => absurd hx hne⟩
          clear hd
          exact Yield.pick (t := true) rfl e23 ⟨Ext.refl _, hp.const _⟩
        · intro ev wy hp hl hk hd
          have e26 : ev (.tmp 26) = .bool true := hk 26 (by decide)
          clear hk
          refine ⟨fun _ _ _ => ?_, fun _ hx hne => absurd hx hne⟩
          clear hd
          exact Yield.mv rfl ⟨Ext.refl _, e26⟩
        · intro ev wy hp hl hk hd
          have e5 : ev (.tmp 5) = .slice a1 n1 c1 := hk 5 (by decide)
          clear hk
          exact ⟨fun x hx he => (by rw [show x = .bool true from hx] at he; cases he), fun _ _ _ => rfl⟩
        · intro ev wy hp hl hk hd
          have e28 : ev (.tmp 28) = undef := hk 28 (by decide)
          clear hk
          exact ⟨fun x hx he => (by rw [show x = .bool true from hx] at he; cases he), fun _ _ _ => rfl⟩
        · intro ev wy hp hl hk hd
          have e7 : ev (.tmp 7) = .slice a2 n2 c2 := hk 7 (by decide)
          clear hk
          exact ⟨fun x hx he => (by rw [show x = .bool true from hx] at he; cases he), fun _ _ _ => rfl⟩
        · intro ev wy hp hl hk hd
          have e30 : ev (.tmp 30) = undef := hk 30 (by decide)
          clear hk
          exact ⟨fun x hx he => (by rw [show x = .bool true from hx] at he; cases he), fun _ _ _ => rfl⟩
        · intro ev wy hp hl hk hd
          have e29 : ev (.tmp 29) = undef := hk 29 (by decide)
          have e31 : ev (.tmp 31) = undef := hk 31 (by decide)
          clear hk
          exact ⟨fun x hx he => (by rw [show x = .bool true from hx] at he; cases he), fun _ _ _ => rfl⟩
        · intro ev wy hp hl hk hd
          have e2 : ev (.tmp 2) = .pointer (some ⟨h0, 0, none⟩) := hk 2 (by decide)
          clear hk
          exact ⟨fun x hx he => (by rw [show x = .bool true from hx] at he; cases he), fun _ _ _ => rfl⟩
        · intro ev wy hp hl hk hd
          have e3 : ev (.tmp 3) = .pointer (some ⟨h0 + 1, 0, none⟩) := hk 3 (by decide)
          clear hk
          exact ⟨fun x hx he => (by rw [show x = .bool true from hx] at he; cases he), fun _ _ _ => rfl⟩
        · intro ev wy hp hl hk hd
          have e33 : ev (.tmp 33) = undef := hk 33 (by decide)
          have e34 : ev (.tmp 34) = undef := hk 34 (by decide)
          clear hk
          exact ⟨fun x hx he => (by rw [show x = .bool true from hx] at he; cases he), fun _ _ _ => rfl⟩
        · intro ev wy hp hl hk hd
          have e32 : ev (.tmp 32) = undef := hk 32 (by decide)
          have e35 : ev (.tmp 35) = undef := hk 35 (by decide)
          clear hk
          exact ⟨fun x hx he => (by rw [show x = .bool true from hx] at he; cases he), fun _ _ _ => rfl⟩
        · intro ev wy hp hl hk hd
          have e27 : ev (.tmp 27) = .bool true := hk 27 (by decide)
          have e36 : ev (.tmp 36) = undef := hk 36 (by decide)
          clear hk
          refine ⟨fun _ _ _ => ?_, fun _ hx hne => absurd hx hne⟩
          clear hd
          exact Yield.pick (t := true) rfl e27 ⟨Ext.refl _, hp.const _⟩
        · intro ev wy hp hl hk hd
          have e20 : ev (.tmp 20) = .bool true := hk 20 (by decide)
          have e37 : ev (.tmp 37) = .bool true := hk 37 (by decide)
          clear hk
          clear hd
          exact Yield.pick (t := true) rfl e20 ⟨Ext.refl _, e37⟩
        · intro ev wy hp hl hk hd
          have e38 : ev (.tmp 38) = .bool true := hk 38 (by decide)
          clear hk
          clear hd
          exact Yield.as rfl ⟨Ext.refl _, e38⟩
      · intro vals wz hz hv
        have g19 : vals 0 = .bool true := hv 0 (by decide)
        have g20 : vals 1 = .bool true := hv 1 (by decide)
        have g21 : vals 2 = .int .i64 40 := hv 2 (by decide)
        have g22 : vals 3 = .bool true := hv 3 (by decide)
        have g23 : vals 4 = .bool true := hv 4 (by decide)
        have g24 : vals 5 = undef := hv 5 (by decide)
        have g25 : vals 6 = undef := hv 6 (by decide)
        have g26 : vals 7 = .bool true := hv 7 (by decide)
        have g27 : vals 8 = .bool true := hv 8 (by decide)
        have g28 : vals 9 = undef := hv 9 (by decide)
        have g29 : vals 10 = undef := hv 10 (by decide)
        have g30 : vals 11 = undef := hv 11 (by decide)
        have g31 : vals 12 = undef := hv 12 (by decide)
        have g32 : vals 13 = undef := hv 13 (by decide)
        have g33 : vals 14 = undef := hv 14 (by decide)
        have g34 : vals 15 = undef := hv 15 (by decide)
        have g35 : vals 16 = undef := hv 16 (by decide)
        have g36 : vals 17 = undef := hv 17 (by decide)
        have g37 : vals 18 = .bool true := hv 18 (by decide)
        have g38 : vals 19 = .bool true := hv 19 (by decide)
        have g4 : vals 20 = .bool true := hv 20 (by decide)
        clear hv
        simp only [putAll, Act.put, List.setIfInBounds_toArray, List.set_cons_zero, List.set_cons_succ, g19, g20, g21, g22, g23, g24, g25, g26, g27, g28, g29, g30, g31, g32, g33, g34, g35, g36, g37, g38, g4]
        clear g19
        clear g20
        clear g21
        clear g22
        clear g23
        clear g24
        clear g25
        clear g26
        clear g27
        clear g28
        clear g29
        clear g30
        clear g31
        clear g32
        clear g33
        clear g34
        clear g35
        clear g36
        clear g37
        clear g38
        clear g4
        go_wp2_with fail
        go_ret
        exact ⟨rfl, hE3.trans hz⟩
    | true =>
      have HRA := Lib.hid hra
      have HRB := Lib.hid hrb
      clear hra hrb
      go_enter Try.func9, Try.ntmps9
      go_wp2_with fail
      refine (encode4_wrong _ a _ HRA.out (HV.out.below hE0)).mono ?_
      rintro e w1 ⟨v1, rfl, hb1, hE1⟩
      obtain ⟨a1, n1, c1, rfl⟩ := hb1.isSlice
      obtain ⟨y0, y1, y2, y3⟩ := cells4 (heap_ext HB0.out hE1)
      go_wp2_with fail
      refine (encode4_right _ b _ HRB.out (HU.out.below (hE0.trans hE1))).mono ?_
      rintro e w2 ⟨v2, rfl, hb2, hE2⟩
      obtain ⟨a2, n2, c2, rfl⟩ := hb2.isSlice
      have HB1 := Lib.hid (hb1.below hE2)
      have HB2 := Lib.hid hb2
      have XA := Lib.hid (heap_ext (heap_ext HA0.out hE1) hE2)
      have XB := Lib.hid (heap_ext (heap_ext HB0.out hE1) hE2)
      have hE3 := (hE0.trans hE1).trans hE2
      have HV2 := Lib.hid (HV.out.below hE3)
      have HU2 := Lib.hid (HU.out.below hE3)
      clear y0 y1 y2 y3 hb1 hb2
      go_wp2_with fail
      generalize W.heap.size = h0 at *
      refine wp_region_facts (by kernel_rfl) Ext (fun iop v w => match iop with
          | 0 => v = .bool true
          | 1 => v = .bool true
          | 2 => v = .int .i64 40
          | 3 => v = .bool true
          | 4 => v = .bool true
          | 5 => v = undef
          | 6 => v = undef
          | 7 => v = .bool true
          | 8 => v = .bool true
          | 9 => v = undef
          | 10 => v = undef
          | 11 => v = undef
          | 12 => v = undef
          | 13 => v = undef
          | 14 => v = undef
          | 15 => v = undef
          | 16 => v = undef
          | 17 => v = undef
          | 18 => v = .bool true
          | 19 => v = .bool true
          | _ => v = .bool true
          ) (by kernel_rfl) (fun _ _ _ h k => Ext.trans h k) (fun a => Ext.refl a) (Ext.drew _) ?_ ?_ ?_
      · intro iop v wa wb hF hL
        cases iop with
        | zero => exact hF
        | succ iop =>
          cases iop with
          | zero => exact hF
          | succ iop =>
            cases iop with
            | zero => exact hF
            | succ iop =>
              cases iop with
              | zero => exact hF
              | succ iop =>
                cases iop with
                | zero => exact hF
                | succ iop =>
                  cases iop with
                  | zero => exact hF
                  | succ iop =>
                    cases iop with
                    | zero => exact hF
                    | succ iop =>
                      cases iop with
                      | zero => exact hF
                      | succ iop =>
                        cases iop with
                        | zero => exact hF
                        | succ iop =>
                          cases iop with
                          | zero => exact hF
                          | succ iop =>
                            cases iop with
                            | zero => exact hF
                            | succ iop =>
                              cases iop with
                              | zero => exact hF
                              | succ iop =>
                                cases iop with
                                | zero => exact hF
                                | succ iop =>
                                  cases iop with
                                  | zero => exact hF
                                  | succ iop =>
                                    cases iop with
                                    | zero => exact hF
                                    | succ iop =>
                                      cases iop with
                                      | zero => exact hF
                                      | succ iop =>
                                        cases iop with
                                        | zero => exact hF
                                        | succ iop =>
                                          cases iop with
                                          | zero => exact hF
                                          | succ iop =>
                                            cases iop with
                                            | zero => exact hF
                                            | succ iop =>
                                              cases iop with
                                              | zero => exact hF
                                              | succ iop =>
                                                exact hF
      · refine Obls.cons ?_ (Obls.cons ?_ (Obls.cons ?_ (Obls.cons ?_ (Obls.cons ?_ (Obls.cons ?_ (Obls.cons ?_ (Obls.cons ?_ (Obls.cons ?_ (Obls.cons ?_ (Obls.cons ?_ (Obls.cons ?_ (Obls.cons ?_ (Obls.cons ?_ (Obls.cons ?_ (Obls.cons ?_ (Obls.cons ?_ (Obls.cons ?_ (Obls.cons ?_ (Obls.cons ?_ (Obls.cons ?_ (Obls.nil)))))))))))))))))))))
        · intro ev wy hp hl hk hd
          clear hk
          clear hd
          refine Yield.call rfl hp Try.func13 rfl (by kernel_rfl) ?_
          simp only [List.map_toArray, List.map_nil]
          exact (recAlive_any wy).mono fun _ _ ⟨he, hb⟩ => ⟨_, he, hb, by first | rfl | simp⟩
        · intro ev wy hp hl hk hd
          have e19 : ev (.tmp 19) = .bool true := hk 19 (by decide)
          clear hk
          clear hd
          exact Yield.mv rfl ⟨Ext.refl _, e19⟩
        · intro ev wy hp hl hk hd
          have e6 : ev (.tmp 6) = .int .i64 40 := hk 6 (by decide)
          clear hk
          refine ⟨fun _ _ _ => ?_, fun _ hx hne => absurd hx hne⟩
          clear hd
          exact Yield.mv rfl ⟨Ext.refl _, e6⟩
        · intro ev wy hp hl hk hd
          have e21 : ev (.tmp 21) = .int .i64 40 := hk 21 (by decide)
          clear hk
          refine ⟨fun _ _ _ => ?_, fun _ hx hne => absurd hx hne⟩
          clear hd
          exact Yield.op (v := .bool true) (w' := wy) (by simp [execOp, go_sem, e21, hp.const]) ⟨Ext.refl _, rfl⟩
        · intro ev wy hp hl hk hd
          have e22 : ev (.tmp 22) = .bool true := hk 22 (by decide)
          clear hk
          refine ⟨fun _ _ _ => ?_, fun _ hx hne => absurd hx hne⟩
          clear hd
          exact Yield.mv rfl ⟨Ext.refl _, e22⟩
        · intro ev wy hp hl hk hd
          have e8 : ev (.tmp 8) = .int .i64 0 := hk 8 (by decide)
          clear hk
          exact ⟨fun x hx he => (by rw [show x = .bool true from hx] at he; cases he), fun _ _ _ => rfl⟩
        · intro ev wy hp hl hk hd
          have e24 : ev (.tmp 24) = undef := hk 24 (by decide)
          clear hk
          exact ⟨fun x hx he => (by rw [show x = .bool true from hx] at he; cases he), fun _ _ _ => rfl⟩
        · intro ev wy hp hl hk hd
          have e23 : ev (.tmp 23) = .bool true := hk 23 (by decide)
          have e25 : ev (.tmp 25) = undef := hk 25 (by decide)
          clear hk
          refine ⟨fun _ _ _ => ?_, fun _ hx hne => absurd hx hne⟩
          clear hd
          exact Yield.pick (t := true) rfl e23 ⟨Ext.refl _, hp.const _⟩
        · intro ev wy hp hl hk hd
          have e26 : ev (.tmp 26) = .bool true := hk 26 (by decide)
          clear hk
          refine ⟨fun _ _ _ => ?_, fun _ hx hne => absurd hx hne⟩
          clear hd
          exact Yield.mv rfl ⟨Ext.refl _, e26⟩
        · intro ev wy hp hl hk hd
          have e5 : ev (.tmp 5) = .slice a1 n1 c1 := hk 5 (by decide)
          clear hk
          exact ⟨fun x hx he => (by rw [show x = .bool true from hx] at he; cases he), fun _ _ _ => rfl⟩
        · intro ev wy hp hl hk hd
          have e28 : ev (.tmp 28) = undef := hk 28 (by decide)
          clear hk
          exact ⟨fun x hx he => (by rw [show x = .bool true from hx] at he; cases he), fun _ _ _ => rfl⟩
        · intro ev wy hp hl hk hd
          have e7 : ev (.tmp 7) = .slice a2 n2 c2 := hk 7 (by decide)
          clear hk
          exact ⟨fun x hx he => (by rw [show x = .bool true from hx] at he; cases he), fun _ _ _ => rfl⟩
        · intro ev wy hp hl hk hd
          have e30 : ev (.tmp 30) = undef := hk 30 (by decide)
          clear hk
          exact ⟨fun x hx he => (by rw [show x = .bool true from hx] at he; cases he), fun _ _ _ => rfl⟩
        · intro ev wy hp hl hk hd
          have e29 : ev (.tmp 29) = undef := hk 29 (by decide)
          have e31 : ev (.tmp 31) = undef := hk 31 (by decide)
          clear hk
          exact ⟨fun x hx he => (by rw [show x = .bool true from hx] at he; cases he), fun _ _ _ => rfl⟩
        · intro ev wy hp hl hk hd
          have e2 : ev (.tmp 2) = .pointer (some ⟨h0, 0, none⟩) := hk 2 (by decide)
          clear hk
          exact ⟨fun x hx he => (by rw [show x = .bool true from hx] at he; cases he), fun _ _ _ => rfl⟩
        · intro ev wy hp hl hk hd
          have e3 : ev (.tmp 3) = .pointer (some ⟨h0 + 1, 0, none⟩) := hk 3 (by decide)
          clear hk
          exact ⟨fun x hx he => (by rw [show x = .bool true from hx] at he; cases he), fun _ _ _ => rfl⟩
        · intro ev wy hp hl hk hd
          have e33 : ev (.tmp 33) = undef := hk 33 (by decide)
          have e34 : ev (.tmp 34) = undef := hk 34 (by decide)
          clear hk
          exact ⟨fun x hx he => (by rw [show x = .bool true from hx] at he; cases he), fun _ _ _ => rfl⟩
        · intro ev wy hp hl hk hd
          have e32 : ev (.tmp 32) = undef := hk 32 (by decide)
          have e35 : ev (.tmp 35) = undef := hk 35 (by decide)
          clear hk
          exact ⟨fun x hx he => (by rw [show x = .bool true from hx] at he; cases he), fun _ _ _ => rfl⟩
        · intro ev wy hp hl hk hd
          have e27 : ev (.tmp 27) = .bool true := hk 27 (by decide)
          have e36 : ev (.tmp 36) = undef := hk 36 (by decide)
          clear hk
          refine ⟨fun _ _ _ => ?_, fun _ hx hne => absurd hx hne⟩
          clear hd
          exact Yield.pick (t := true) rfl e27 ⟨Ext.refl _, hp.const _⟩
        · intro ev wy hp hl hk hd
          have e20 : ev (.tmp 20) = .bool true := hk 20 (by decide)
          have e37 : ev (.tmp 37) = .bool true := hk 37 (by decide)
          clear hk
          clear hd
          exact Yield.pick (t := true) rfl e20 ⟨Ext.refl _, e37⟩
        · intro ev wy hp hl hk hd
          have e38 : ev (.tmp 38) = .bool true := hk 38 (by decide)
          clear hk
          clear hd
          exact Yield.as rfl ⟨Ext.refl _, e38⟩
      · intro vals wz hz hv
        have g19 : vals 0 = .bool true := hv 0 (by decide)
        have g20 : vals 1 = .bool true := hv 1 (by decide)
        have g21 : vals 2 = .int .i64 40 := hv 2 (by decide)
        have g22 : vals 3 = .bool true := hv 3 (by decide)
        have g23 : vals 4 = .bool true := hv 4 (by decide)
        have g24 : vals 5 = undef := hv 5 (by decide)
        have g25 : vals 6 = undef := hv 6 (by decide)
        have g26 : vals 7 = .bool true := hv 7 (by decide)
        have g27 : vals 8 = .bool true := hv 8 (by decide)
        have g28 : vals 9 = undef := hv 9 (by decide)
        have g29 : vals 10 = undef := hv 10 (by decide)
        have g30 : vals 11 = undef := hv 11 (by decide)
        have g31 : vals 12 = undef := hv 12 (by decide)
        have g32 : vals 13 = undef := hv 13 (by decide)
        have g33 : vals 14 = undef := hv 14 (by decide)
        have g34 : vals 15 = undef := hv 15 (by decide)
        have g35 : vals 16 = undef := hv 16 (by decide)
        have g36 : vals 17 = undef := hv 17 (by decide)
        have g37 : vals 18 = .bool true := hv 18 (by decide)
        have g38 : vals 19 = .bool true := hv 19 (by decide)
        have g4 : vals 20 = .bool true := hv 20 (by decide)
        clear hv
        simp only [putAll, Act.put, List.setIfInBounds_toArray, List.set_cons_zero, List.set_cons_succ, g19, g20, g21, g22, g23, g24, g25, g26, g27, g28, g29, g30, g31, g32, g33, g34, g35, g36, g37, g38, g4]
        clear g19
        clear g20
        clear g21
        clear g22
        clear g23
        clear g24
        clear g25
        clear g26
        clear g27
        clear g28
        clear g29
        clear g30
        clear g31
        clear g32
        clear g33
        clear g34
        clear g35
        clear g36
        clear g37
        clear g38
        clear g4
        go_wp2_with fail
        go_ret
        exact ⟨rfl, hE3.trans hz⟩
  | true =>
    cases hrb : Rec.right b with
    | false =>
      have HRA := Lib.hid hra
      have HRB := Lib.hid hrb
      clear hra hrb
      go_enter Try.func9, Try.ntmps9
      go_wp2_with fail
      refine (encode4_right _ a _ HRA.out (HV.out.below hE0)).mono ?_
      rintro e w1 ⟨v1, rfl, hb1, hE1⟩
      obtain ⟨a1, n1, c1, rfl⟩ := hb1.isSlice
      obtain ⟨y0, y1, y2, y3⟩ := cells4 (heap_ext HB0.out hE1)
      go_wp2_with fail
      refine (encode4_wrong _ b _ HRB.out (HU.out.below (hE0.trans hE1))).mono ?_
      rintro e w2 ⟨v2, rfl, hb2, hE2⟩
      obtain ⟨a2, n2, c2, rfl⟩ := hb2.isSlice
      have HB1 := Lib.hid (hb1.below hE2)
      have HB2 := Lib.hid hb2
      have XA := Lib.hid (heap_ext (heap_ext HA0.out hE1) hE2)
      have XB := Lib.hid (heap_ext (heap_ext HB0.out hE1) hE2)
      have hE3 := (hE0.trans hE1).trans hE2
      have HV2 := Lib.hid (HV.out.below hE3)
      have HU2 := Lib.hid (HU.out.below hE3)
      clear y0 y1 y2 y3 hb1 hb2
      go_wp2_with fail
      generalize W.heap.size = h0 at *
      refine wp_region_facts (by kernel_rfl) Ext (fun iop v w => match iop with
          | 0 => v = .bool true
          | 1 => v = .bool true
          | 2 => v = .int .i64 0
          | 3 => v = .bool false
          | 4 => v = .bool false
          | 5 => v = .int .i64 40
          | 6 => v = .bool true
          | 7 => v = .bool true
          | 8 => v = .bool true
          | 9 => v = undef
          | 10 => v = undef
          | 11 => v = undef
          | 12 => v = undef
          | 13 => v = undef
          | 14 => v = undef
          | 15 => v = undef
          | 16 => v = undef
          | 17 => v = undef
          | 18 => v = .bool true
          | 19 => v = .bool true
          | _ => v = .bool true
          ) (by kernel_rfl) (fun _ _ _ h k => Ext.trans h k) (fun a => Ext.refl a) (Ext.drew _) ?_ ?_ ?_
      · intro iop v wa wb hF hL
        cases iop with
        | zero => exact hF
        | succ iop =>
          cases iop with
          | zero => exact hF
          | succ iop =>
            cases iop with
            | zero => exact hF
            | succ iop =>
              cases iop with
              | zero => exact hF
              | succ iop =>
                cases iop with
                | zero => exact hF
                | succ iop =>
                  cases iop with
                  | zero => exact hF
                  | succ iop =>
                    cases iop with
                    | zero => exact hF
                    | succ iop =>
                      cases iop with
                      | zero => exact hF
                      | succ iop =>
                        cases iop with
                        | zero => exact hF
                        | succ iop =>
                          cases iop with
                          | zero => exact hF
                          | succ iop =>
                            cases iop with
                            | zero => exact hF
                            | succ iop =>
                              cases iop with
                              | zero => exact hF
                              | succ iop =>
                                cases iop with
                                | zero => exact hF
                                | succ iop =>
                                  cases iop with
                                  | zero => exact hF
                                  | succ iop =>
                                    cases iop with
                                    | zero => exact hF
                                    | succ iop =>
                                      cases iop with
                                      | zero => exact hF
                                      | succ iop =>
                                        cases iop with
                                        | zero => exact hF
                                        | succ iop =>
                                          cases iop with
                                          | zero => exact hF
                                          | succ iop =>
                                            cases iop with
                                            | zero => exact hF
                                            | succ iop =>
                                              cases iop with
                                              | zero => exact hF
                                              | succ iop =>
                                                exact hF
      · refine Obls.cons ?_ (Obls.cons ?_ (Obls.cons ?_ (Obls.cons ?_ (Obls.cons ?_ (Obls.cons ?_ (Obls.cons ?_ (Obls.cons ?_ (Obls.cons ?_ (Obls.cons ?_ (Obls.cons ?_ (Obls.cons ?_ (Obls.cons ?_ (Obls.cons ?_ (Obls.cons ?_ (Obls.cons ?_ (Obls.cons ?_ (Obls.cons ?_ (Obls.cons ?_ (Obls.cons ?_ (Obls.cons ?_ (Obls.nil)))))))))))))))))))))
        · intro ev wy hp hl hk hd
          clear hk
          clear hd
          refine Yield.call rfl hp Try.func13 rfl (by kernel_rfl) ?_
          simp only [List.map_toArray, List.map_nil]
          exact (recAlive_any wy).mono fun _ _ ⟨he, hb⟩ => ⟨_, he, hb, by first | rfl | simp⟩
        · intro ev wy hp hl hk hd
          have e19 : ev (.tmp 19) = .bool true := hk 19 (by decide)
          clear hk
          clear hd
          exact Yield.mv rfl ⟨Ext.refl _, e19⟩
        · intro ev wy hp hl hk hd
          have e6 : ev (.tmp 6) = .int .i64 0 := hk 6 (by decide)
          clear hk
          refine ⟨fun _ _ _ => ?_, fun _ hx hne => absurd hx hne⟩
          clear hd
          exact Yield.mv rfl ⟨Ext.refl _, e6⟩
        · intro ev wy hp hl hk hd
          have e21 : ev (.tmp 21) = .int .i64 0 := hk 21 (by decide)
          clear hk
          refine ⟨fun _ _ _ => ?_, fun _ hx hne => absurd hx hne⟩
          clear hd
          exact Yield.op (v := .bool false) (w' := wy) (by simp [execOp, go_sem, e21, hp.const]) ⟨Ext.refl _, rfl⟩
        · intro ev wy hp hl hk hd
          have e22 : ev (.tmp 22) = .bool false := hk 22 (by decide)
          clear hk
          refine ⟨fun _ _ _ => ?_, fun _ hx hne => absurd hx hne⟩
          clear hd
          exact Yield.mv rfl ⟨Ext.refl _, e22⟩
        · intro ev wy hp hl hk hd
          have e8 : ev (.tmp 8) = .int .i64 40 := hk 8 (by decide)
          clear hk
          refine ⟨fun _ _ _ => ?_, fun _ hx hne => absurd hx hne⟩
          clear hd
          exact Yield.mv rfl ⟨Ext.refl _, e8⟩
        · intro ev wy hp hl hk hd
          have e24 : ev (.tmp 24) = .int .i64 40 := hk 24 (by decide)
          clear hk
          refine ⟨fun _ _ _ => ?_, fun _ hx hne => absurd hx hne⟩
          clear hd
          exact Yield.op (v := .bool true) (w' := wy) (by simp [execOp, go_sem, e24, hp.const]) ⟨Ext.refl _, rfl⟩
        · intro ev wy hp hl hk hd
          have e23 : ev (.tmp 23) = .bool false := hk 23 (by decide)
          have e25 : ev (.tmp 25) = .bool true := hk 25 (by decide)
          clear hk
          refine ⟨fun _ _ _ => ?_, fun _ hx hne => absurd hx hne⟩
          clear hd
          exact Yield.pick (t := false) rfl e23 ⟨Ext.refl _, e25⟩
        · intro ev wy hp hl hk hd
          have e26 : ev (.tmp 26) = .bool true := hk 26 (by decide)
          clear hk
          refine ⟨fun _ _ _ => ?_, fun _ hx hne => absurd hx hne⟩
          clear hd
          exact Yield.mv rfl ⟨Ext.refl _, e26⟩
        · intro ev wy hp hl hk hd
          have e5 : ev (.tmp 5) = .slice a1 n1 c1 := hk 5 (by decide)
          clear hk
          exact ⟨fun x hx he => (by rw [show x = .bool true from hx] at he; cases he), fun _ _ _ => rfl⟩
        · intro ev wy hp hl hk hd
          have e28 : ev (.tmp 28) = undef := hk 28 (by decide)
          clear hk
          exact ⟨fun x hx he => (by rw [show x = .bool true from hx] at he; cases he), fun _ _ _ => rfl⟩
        · intro ev wy hp hl hk hd
          have e7 : ev (.tmp 7) = .slice a2 n2 c2 := hk 7 (by decide)
          clear hk
          exact ⟨fun x hx he => (by rw [show x = .bool true from hx] at he; cases he), fun _ _ _ => rfl⟩
        · intro ev wy hp hl hk hd
          have e30 : ev (.tmp 30) = undef := hk 30 (by decide)
          clear hk
          exact ⟨fun x hx he => (by rw [show x = .bool true from hx] at he; cases he), fun _ _ _ => rfl⟩
        · intro ev wy hp hl hk hd
          have e29 : ev (.tmp 29) = undef := hk 29 (by decide)
          have e31 : ev (.tmp 31) = undef := hk 31 (by decide)
          clear hk
          exact ⟨fun x hx he => (by rw [show x = .bool true from hx] at he; cases he), fun _ _ _ => rfl⟩
        · intro ev wy hp hl hk hd
          have e2 : ev (.tmp 2) = .pointer (some ⟨h0, 0, none⟩) := hk 2 (by decide)
          clear hk
          exact ⟨fun x hx he => (by rw [show x = .bool true from hx] at he; cases he), fun _ _ _ => rfl⟩
        · intro ev wy hp hl hk hd
          have e3 : ev (.tmp 3) = .pointer (some ⟨h0 + 1, 0, none⟩) := hk 3 (by decide)
          clear hk
          exact ⟨fun x hx he => (by rw [show x = .bool true from hx] at he; cases he), fun _ _ _ => rfl⟩
        · intro ev wy hp hl hk hd
          have e33 : ev (.tmp 33) = undef := hk 33 (by decide)
          have e34 : ev (.tmp 34) = undef := hk 34 (by decide)
          clear hk
          exact ⟨fun x hx he => (by rw [show x = .bool true from hx] at he; cases he), fun _ _ _ => rfl⟩
        · intro ev wy hp hl hk hd
          have e32 : ev (.tmp 32) = undef := hk 32 (by decide)
          have e35 : ev (.tmp 35) = undef := hk 35 (by decide)
          clear hk
          exact ⟨fun x hx he => (by rw [show x = .bool true from hx] at he; cases he), fun _ _ _ => rfl⟩
        · intro ev wy hp hl hk hd
          have e27 : ev (.tmp 27) = .bool true := hk 27 (by decide)
          have e36 : ev (.tmp 36) = undef := hk 36 (by decide)
          clear hk
          refine ⟨fun _ _ _ => ?_, fun _ hx hne => absurd hx hne⟩
          clear hd
          exact Yield.pick (t := true) rfl e27 ⟨Ext.refl _, hp.const _⟩
        · intro ev wy hp hl hk hd
          have e20 : ev (.tmp 20) = .bool true := hk 20 (by decide)
          have e37 : ev (.tmp 37) = .bool true := hk 37 (by decide)
          clear hk
          clear hd
          exact Yield.pick (t := true) rfl e20 ⟨Ext.refl _, e37⟩
        · intro ev wy hp hl hk hd
          have e38 : ev (.tmp 38) = .bool true := hk 38 (by decide)
          clear hk
          clear hd
          exact Yield.as rfl ⟨Ext.refl _, e38⟩
      · intro vals wz hz hv
        have g19 : vals 0 = .bool true := hv 0 (by decide)
        have g20 : vals 1 = .bool true := hv 1 (by decide)
        have g21 : vals 2 = .int .i64 0 := hv 2 (by decide)
        have g22 : vals 3 = .bool false := hv 3 (by decide)
        have g23 : vals 4 = .bool false := hv 4 (by decide)
        have g24 : vals 5 = .int .i64 40 := hv 5 (by decide)
        have g25 : vals 6 = .bool true := hv 6 (by decide)
        have g26 : vals 7 = .bool true := hv 7 (by decide)
        have g27 : vals 8 = .bool true := hv 8 (by decide)
        have g28 : vals 9 = undef := hv 9 (by decide)
        have g29 : vals 10 = undef := hv 10 (by decide)
        have g30 : vals 11 = undef := hv 11 (by decide)
        have g31 : vals 12 = undef := hv 12 (by decide)
        have g32 : vals 13 = undef := hv 13 (by decide)
        have g33 : vals 14 = undef := hv 14 (by decide)
        have g34 : vals 15 = undef := hv 15 (by decide)
        have g35 : vals 16 = undef := hv 16 (by decide)
        have g36 : vals 17 = undef := hv 17 (by decide)
        have g37 : vals 18 = .bool true := hv 18 (by decide)
        have g38 : vals 19 = .bool true := hv 19 (by decide)
        have g4 : vals 20 = .bool true := hv 20 (by decide)
        clear hv
        simp only [putAll, Act.put, List.setIfInBounds_toArray, List.set_cons_zero, List.set_cons_succ, g19, g20, g21, g22, g23, g24, g25, g26, g27, g28, g29, g30, g31, g32, g33, g34, g35, g36, g37, g38, g4]
        clear g19
        clear g20
        clear g21
        clear g22
        clear g23
        clear g24
        clear g25
        clear g26
        clear g27
        clear g28
        clear g29
        clear g30
        clear g31
        clear g32
        clear g33
        clear g34
        clear g35
        clear g36
        clear g37
        clear g38
        clear g4
        go_wp2_with fail
        go_ret
        exact ⟨rfl, hE3.trans hz⟩
    | true =>
      cases hs : Rec.same a b with
      | false =>
        have hne : ¬ Rec.enc a = Rec.enc b := fun h => by
          have := Rec.enc_inj hra hrb h
          subst this
          rw [Rec.same_self] at hs
          cases hs
        have HEQ := Lib.hid hne
        have HSAME := Lib.hid hs
        have HRA := Lib.hid hra
        have HRB := Lib.hid hrb
        clear hra hrb hs hne
        go_enter Try.func9, Try.ntmps9
        go_wp2_with fail
        refine (encode4_right _ a _ HRA.out (HV.out.below hE0)).mono ?_
        rintro e w1 ⟨v1, rfl, hb1, hE1⟩
        obtain ⟨a1, n1, c1, rfl⟩ := hb1.isSlice
        obtain ⟨y0, y1, y2, y3⟩ := cells4 (heap_ext HB0.out hE1)
        go_wp2_with fail
        refine (encode4_right _ b _ HRB.out (HU.out.below (hE0.trans hE1))).mono ?_
        rintro e w2 ⟨v2, rfl, hb2, hE2⟩
        obtain ⟨a2, n2, c2, rfl⟩ := hb2.isSlice
        have HB1 := Lib.hid (hb1.below hE2)
        have HB2 := Lib.hid hb2
        have XA := Lib.hid (heap_ext (heap_ext HA0.out hE1) hE2)
        have XB := Lib.hid (heap_ext (heap_ext HB0.out hE1) hE2)
        have hE3 := (hE0.trans hE1).trans hE2
        have HV2 := Lib.hid (HV.out.below hE3)
        have HU2 := Lib.hid (HU.out.below hE3)
        clear y0 y1 y2 y3 hb1 hb2
        go_wp2_with fail
        generalize W.heap.size = h0 at *
        refine wp_region_facts (by kernel_rfl) Ext (fun iop v w => match iop with
            | 0 => v = .bool true
            | 1 => v = .bool true
            | 2 => v = .int .i64 0
            | 3 => v = .bool false
            | 4 => v = .bool false
            | 5 => v = .int .i64 0
            | 6 => v = .bool false
            | 7 => v = .bool false
            | 8 => v = .bool false
            | 9 => v = .slice a1 n1 c1
            | 10 => v = .string ⟨(Rec.enc a).toArray⟩
            | 11 => v = .slice a2 n2 c2
            | 12 => v = .string ⟨(Rec.enc b).toArray⟩
            | 13 => v = .bool false
            | 14 => v = .agg #[.int .i64 a.client, .int .i64 a.number, .slice p1 m1 k1, .string ⟨a.data.toArray⟩]
            | 15 => v = .agg #[.int .i64 b.client, .int .i64 b.number, .slice p2 m2 k2, .string ⟨b.data.toArray⟩]
            | 16 => v = .bool false
            | 17 => v = .bool true
            | 18 => v = .bool true
            | 19 => v = .bool true
            | _ => v = .bool true
            ) (by kernel_rfl) (fun _ _ _ h k => Ext.trans h k) (fun a => Ext.refl a) (Ext.drew _) ?_ ?_ ?_
        · intro iop v wa wb hF hL
          cases iop with
          | zero => exact hF
          | succ iop =>
            cases iop with
            | zero => exact hF
            | succ iop =>
              cases iop with
              | zero => exact hF
              | succ iop =>
                cases iop with
                | zero => exact hF
                | succ iop =>
                  cases iop with
                  | zero => exact hF
                  | succ iop =>
                    cases iop with
                    | zero => exact hF
                    | succ iop =>
                      cases iop with
                      | zero => exact hF
                      | succ iop =>
                        cases iop with
                        | zero => exact hF
                        | succ iop =>
                          cases iop with
                          | zero => exact hF
                          | succ iop =>
                            cases iop with
                            | zero => exact hF
                            | succ iop =>
                              cases iop with
                              | zero => exact hF
                              | succ iop =>
                                cases iop with
                                | zero => exact hF
                                | succ iop =>
                                  cases iop with
                                  | zero => exact hF
                                  | succ iop =>
                                    cases iop with
                                    | zero => exact hF
                                    | succ iop =>
                                      cases iop with
                                      | zero => exact hF
                                      | succ iop =>
                                        cases iop with
                                        | zero => exact hF
                                        | succ iop =>
                                          cases iop with
                                          | zero => exact hF
                                          | succ iop =>
                                            cases iop with
                                            | zero => exact hF
                                            | succ iop =>
                                              cases iop with
                                              | zero => exact hF
                                              | succ iop =>
                                                cases iop with
                                                | zero => exact hF
                                                | succ iop =>
                                                  exact hF
        · refine Obls.cons ?_ (Obls.cons ?_ (Obls.cons ?_ (Obls.cons ?_ (Obls.cons ?_ (Obls.cons ?_ (Obls.cons ?_ (Obls.cons ?_ (Obls.cons ?_ (Obls.cons ?_ (Obls.cons ?_ (Obls.cons ?_ (Obls.cons ?_ (Obls.cons ?_ (Obls.cons ?_ (Obls.cons ?_ (Obls.cons ?_ (Obls.cons ?_ (Obls.cons ?_ (Obls.cons ?_ (Obls.cons ?_ (Obls.nil)))))))))))))))))))))
          · intro ev wy hp hl hk hd
            clear hk
            clear hd
            refine Yield.call rfl hp Try.func13 rfl (by kernel_rfl) ?_
            simp only [List.map_toArray, List.map_nil]
            exact (recAlive_any wy).mono fun _ _ ⟨he, hb⟩ => ⟨_, he, hb, by first | rfl | simp⟩
          · intro ev wy hp hl hk hd
            have e19 : ev (.tmp 19) = .bool true := hk 19 (by decide)
            clear hk
            clear hd
            exact Yield.mv rfl ⟨Ext.refl _, e19⟩
          · intro ev wy hp hl hk hd
            have e6 : ev (.tmp 6) = .int .i64 0 := hk 6 (by decide)
            clear hk
            refine ⟨fun _ _ _ => ?_, fun _ hx hne => absurd hx hne⟩
            clear hd
            exact Yield.mv rfl ⟨Ext.refl _, e6⟩
          · intro ev wy hp hl hk hd
            have e21 : ev (.tmp 21) = .int .i64 0 := hk 21 (by decide)
            clear hk
            refine ⟨fun _ _ _ => ?_, fun _ hx hne => absurd hx hne⟩
            clear hd
            exact Yield.op (v := .bool false) (w' := wy) (by simp [execOp, go_sem, e21, hp.const]) ⟨Ext.refl _, rfl⟩
          · intro ev wy hp hl hk hd
            have e22 : ev (.tmp 22) = .bool false := hk 22 (by decide)
            clear hk
            refine ⟨fun _ _ _ => ?_, fun _ hx hne => absurd hx hne⟩
            clear hd
            exact Yield.mv rfl ⟨Ext.refl _, e22⟩
          · intro ev wy hp hl hk hd
            have e8 : ev (.tmp 8) = .int .i64 0 := hk 8 (by decide)
            clear hk
            refine ⟨fun _ _ _ => ?_, fun _ hx hne => absurd hx hne⟩
            clear hd
            exact Yield.mv rfl ⟨Ext.refl _, e8⟩
          · intro ev wy hp hl hk hd
            have e24 : ev (.tmp 24) = .int .i64 0 := hk 24 (by decide)
            clear hk
            refine ⟨fun _ _ _ => ?_, fun _ hx hne => absurd hx hne⟩
            clear hd
            exact Yield.op (v := .bool false) (w' := wy) (by simp [execOp, go_sem, e24, hp.const]) ⟨Ext.refl _, rfl⟩
          · intro ev wy hp hl hk hd
            have e23 : ev (.tmp 23) = .bool false := hk 23 (by decide)
            have e25 : ev (.tmp 25) = .bool false := hk 25 (by decide)
            clear hk
            refine ⟨fun _ _ _ => ?_, fun _ hx hne => absurd hx hne⟩
            clear hd
            exact Yield.pick (t := false) rfl e23 ⟨Ext.refl _, e25⟩
          · intro ev wy hp hl hk hd
            have e26 : ev (.tmp 26) = .bool false := hk 26 (by decide)
            clear hk
            refine ⟨fun _ _ _ => ?_, fun _ hx hne => absurd hx hne⟩
            clear hd
            exact Yield.mv rfl ⟨Ext.refl _, e26⟩
          · intro ev wy hp hl hk hd
            have e5 : ev (.tmp 5) = .slice a1 n1 c1 := hk 5 (by decide)
            clear hk
            refine ⟨fun _ _ _ => ?_, fun _ hx hne => absurd hx hne⟩
            clear hd
            exact Yield.mv rfl ⟨Ext.refl _, e5⟩
          · intro ev wy hp hl hk hd
            have e28 : ev (.tmp 28) = .slice a1 n1 c1 := hk 28 (by decide)
            clear hk
            refine ⟨fun _ _ _ => ?_, fun _ hx hne => absurd hx hne⟩
            clear hd
            exact Yield.conv rfl e28 (run_str _ _ 5 Try.underlying27 Try.underlying5 Try.underlying9 (HB1.out.below hl)) ⟨Ext.refl _, rfl⟩
          · intro ev wy hp hl hk hd
            have e7 : ev (.tmp 7) = .slice a2 n2 c2 := hk 7 (by decide)
            clear hk
            refine ⟨fun _ _ _ => ?_, fun _ hx hne => absurd hx hne⟩
            clear hd
            exact Yield.mv rfl ⟨Ext.refl _, e7⟩
          · intro ev wy hp hl hk hd
            have e30 : ev (.tmp 30) = .slice a2 n2 c2 := hk 30 (by decide)
            clear hk
            refine ⟨fun _ _ _ => ?_, fun _ hx hne => absurd hx hne⟩
            clear hd
            exact Yield.conv rfl e30 (run_str _ _ 5 Try.underlying27 Try.underlying5 Try.underlying9 (HB2.out.below hl)) ⟨Ext.refl _, rfl⟩
          · intro ev wy hp hl hk hd
            have e29 : ev (.tmp 29) = .string ⟨(Rec.enc a).toArray⟩ := hk 29 (by decide)
            have e31 : ev (.tmp 31) = .string ⟨(Rec.enc b).toArray⟩ := hk 31 (by decide)
            clear hk
            refine ⟨fun _ _ _ => ?_, fun _ hx hne => absurd hx hne⟩
            clear hd
            exact Yield.op (w' := wy) (by simp [execOp, go_sem, e29, e31]; exact HEQ.out) ⟨Ext.refl _, rfl⟩
          · intro ev wy hp hl hk hd
            have e2 : ev (.tmp 2) = .pointer (some ⟨h0, 0, none⟩) := hk 2 (by decide)
            clear hk
            refine ⟨fun _ _ _ => ?_, fun _ hx hne => absurd hx hne⟩
            clear hd
            exact Yield.ld rfl e2 (ld_rec (r := a) (heap_ext XA.out hl)) ⟨Ext.refl _, rfl⟩
          · intro ev wy hp hl hk hd
            have e3 : ev (.tmp 3) = .pointer (some ⟨h0 + 1, 0, none⟩) := hk 3 (by decide)
            clear hk
            refine ⟨fun _ _ _ => ?_, fun _ hx hne => absurd hx hne⟩
            clear hd
            exact Yield.ld rfl e3 (ld_rec (r := b) (heap_ext XB.out hl)) ⟨Ext.refl _, rfl⟩
          · intro ev wy hp hl hk hd
            have e33 : ev (.tmp 33) = .agg #[.int .i64 a.client, .int .i64 a.number, .slice p1 m1 k1, .string ⟨a.data.toArray⟩] := hk 33 (by decide)
            have e34 : ev (.tmp 34) = .agg #[.int .i64 b.client, .int .i64 b.number, .slice p2 m2 k2, .string ⟨b.data.toArray⟩] := hk 34 (by decide)
            clear hk
            refine ⟨fun _ _ _ => ?_, fun _ hx hne => absurd hx hne⟩
            clear hd
            refine Yield.call rfl hp Try.func18 rfl (by kernel_rfl) ?_
            simp only [List.map_toArray, List.map_cons, List.map_nil, e33, e34]
            exact ((HSAME.out ▸ refSame4_any _ _ a b wy (HV2.out.below hl) (HU2.out.below hl))).mono fun _ _ ⟨he, hb⟩ => ⟨_, he, hb, by first | rfl | simp⟩
          · intro ev wy hp hl hk hd
            have e32 : ev (.tmp 32) = .bool false := hk 32 (by decide)
            have e35 : ev (.tmp 35) = .bool false := hk 35 (by decide)
            clear hk
            refine ⟨fun _ _ _ => ?_, fun _ hx hne => absurd hx hne⟩
            clear hd
            exact Yield.op (v := .bool true) (w' := wy) (by simp [execOp, go_sem, e32, e35]) ⟨Ext.refl _, rfl⟩
          · intro ev wy hp hl hk hd
            have e27 : ev (.tmp 27) = .bool false := hk 27 (by decide)
            have e36 : ev (.tmp 36) = .bool true := hk 36 (by decide)
            clear hk
            refine ⟨fun _ _ _ => ?_, fun _ hx hne => absurd hx hne⟩
            clear hd
            exact Yield.pick (t := false) rfl e27 ⟨Ext.refl _, e36⟩
          · intro ev wy hp hl hk hd
            have e20 : ev (.tmp 20) = .bool true := hk 20 (by decide)
            have e37 : ev (.tmp 37) = .bool true := hk 37 (by decide)
            clear hk
            clear hd
            exact Yield.pick (t := true) rfl e20 ⟨Ext.refl _, e37⟩
          · intro ev wy hp hl hk hd
            have e38 : ev (.tmp 38) = .bool true := hk 38 (by decide)
            clear hk
            clear hd
            exact Yield.as rfl ⟨Ext.refl _, e38⟩
        · intro vals wz hz hv
          have g19 : vals 0 = .bool true := hv 0 (by decide)
          have g20 : vals 1 = .bool true := hv 1 (by decide)
          have g21 : vals 2 = .int .i64 0 := hv 2 (by decide)
          have g22 : vals 3 = .bool false := hv 3 (by decide)
          have g23 : vals 4 = .bool false := hv 4 (by decide)
          have g24 : vals 5 = .int .i64 0 := hv 5 (by decide)
          have g25 : vals 6 = .bool false := hv 6 (by decide)
          have g26 : vals 7 = .bool false := hv 7 (by decide)
          have g27 : vals 8 = .bool false := hv 8 (by decide)
          have g28 : vals 9 = .slice a1 n1 c1 := hv 9 (by decide)
          have g29 : vals 10 = .string ⟨(Rec.enc a).toArray⟩ := hv 10 (by decide)
          have g30 : vals 11 = .slice a2 n2 c2 := hv 11 (by decide)
          have g31 : vals 12 = .string ⟨(Rec.enc b).toArray⟩ := hv 12 (by decide)
          have g32 : vals 13 = .bool false := hv 13 (by decide)
          have g33 : vals 14 = .agg #[.int .i64 a.client, .int .i64 a.number, .slice p1 m1 k1, .string ⟨a.data.toArray⟩] := hv 14 (by decide)
          have g34 : vals 15 = .agg #[.int .i64 b.client, .int .i64 b.number, .slice p2 m2 k2, .string ⟨b.data.toArray⟩] := hv 15 (by decide)
          have g35 : vals 16 = .bool false := hv 16 (by decide)
          have g36 : vals 17 = .bool true := hv 17 (by decide)
          have g37 : vals 18 = .bool true := hv 18 (by decide)
          have g38 : vals 19 = .bool true := hv 19 (by decide)
          have g4 : vals 20 = .bool true := hv 20 (by decide)
          clear hv
          simp only [putAll, Act.put, List.setIfInBounds_toArray, List.set_cons_zero, List.set_cons_succ, g19, g20, g21, g22, g23, g24, g25, g26, g27, g28, g29, g30, g31, g32, g33, g34, g35, g36, g37, g38, g4]
          clear g19
          clear g20
          clear g21
          clear g22
          clear g23
          clear g24
          clear g25
          clear g26
          clear g27
          clear g28
          clear g29
          clear g30
          clear g31
          clear g32
          clear g33
          clear g34
          clear g35
          clear g36
          clear g37
          clear g38
          clear g4
          go_wp2_with fail
          go_ret
          exact ⟨rfl, hE3.trans hz⟩
      | true =>
        have heq : Rec.enc a = Rec.enc b := by rw [(Rec.same_iff a b).1 hs]
        have HEQ := Lib.hid heq
        have HSAME := Lib.hid hs
        have HRA := Lib.hid hra
        have HRB := Lib.hid hrb
        clear hra hrb hs heq
        go_enter Try.func9, Try.ntmps9
        go_wp2_with fail
        refine (encode4_right _ a _ HRA.out (HV.out.below hE0)).mono ?_
        rintro e w1 ⟨v1, rfl, hb1, hE1⟩
        obtain ⟨a1, n1, c1, rfl⟩ := hb1.isSlice
        obtain ⟨y0, y1, y2, y3⟩ := cells4 (heap_ext HB0.out hE1)
        go_wp2_with fail
        refine (encode4_right _ b _ HRB.out (HU.out.below (hE0.trans hE1))).mono ?_
        rintro e w2 ⟨v2, rfl, hb2, hE2⟩
        obtain ⟨a2, n2, c2, rfl⟩ := hb2.isSlice
        have HB1 := Lib.hid (hb1.below hE2)
        have HB2 := Lib.hid hb2
        have XA := Lib.hid (heap_ext (heap_ext HA0.out hE1) hE2)
        have XB := Lib.hid (heap_ext (heap_ext HB0.out hE1) hE2)
        have hE3 := (hE0.trans hE1).trans hE2
        have HV2 := Lib.hid (HV.out.below hE3)
        have HU2 := Lib.hid (HU.out.below hE3)
        clear y0 y1 y2 y3 hb1 hb2
        go_wp2_with fail
        generalize W.heap.size = h0 at *
        refine wp_region_facts (by kernel_rfl) Ext (fun iop v w => match iop with
            | 0 => v = .bool true
            | 1 => v = .bool true
            | 2 => v = .int .i64 0
            | 3 => v = .bool false
            | 4 => v = .bool false
            | 5 => v = .int .i64 0
            | 6 => v = .bool false
            | 7 => v = .bool false
            | 8 => v = .bool false
            | 9 => v = .slice a1 n1 c1
            | 10 => v = .string ⟨(Rec.enc a).toArray⟩
            | 11 => v = .slice a2 n2 c2
            | 12 => v = .string ⟨(Rec.enc b).toArray⟩
            | 13 => v = .bool true
            | 14 => v = .agg #[.int .i64 a.client, .int .i64 a.number, .slice p1 m1 k1, .string ⟨a.data.toArray⟩]
            | 15 => v = .agg #[.int .i64 b.client, .int .i64 b.number, .slice p2 m2 k2, .string ⟨b.data.toArray⟩]
            | 16 => v = .bool true
            | 17 => v = .bool true
            | 18 => v = .bool true
            | 19 => v = .bool true
            | _ => v = .bool true
            ) (by kernel_rfl) (fun _ _ _ h k => Ext.trans h k) (fun a => Ext.refl a) (Ext.drew _) ?_ ?_ ?_
        · intro iop v wa wb hF hL
          cases iop with
          | zero => exact hF
          | succ iop =>
            cases iop with
            | zero => exact hF
            | succ iop =>
              cases iop with
              | zero => exact hF
              | succ iop =>
                cases iop with
                | zero => exact hF
                | succ iop =>
                  cases iop with
                  | zero => exact hF
                  | succ iop =>
                    cases iop with
                    | zero => exact hF
                    | succ iop =>
                      cases iop with
                      | zero => exact hF
                      | succ iop =>
                        cases iop with
                        | zero => exact hF
                        | succ iop =>
                          cases iop with
                          | zero => exact hF
                          | succ iop =>
                            cases iop with
                            | zero => exact hF
                            | succ iop =>
                              cases iop with
                              | zero => exact hF
                              | succ iop =>
                                cases iop with
                                | zero => exact hF
                                | succ iop =>
                                  cases iop with
                                  | zero => exact hF
                                  | succ iop =>
                                    cases iop with
                                    | zero => exact hF
                                    | succ iop =>
                                      cases iop with
                                      | zero => exact hF
                                      | succ iop =>
                                        cases iop with
                                        | zero => exact hF
                                        | succ iop =>
                                          cases iop with
                                          | zero => exact hF
                                          | succ iop =>
                                            cases iop with
                                            | zero => exact hF
                                            | succ iop =>
                                              cases iop with
                                              | zero => exact hF
                                              | succ iop =>
                                                cases iop with
                                                | zero => exact hF
                                                | succ iop =>
                                                  exact hF
        · refine Obls.cons ?_ (Obls.cons ?_ (Obls.cons ?_ (Obls.cons ?_ (Obls.cons ?_ (Obls.cons ?_ (Obls.cons ?_ (Obls.cons ?_ (Obls.cons ?_ (Obls.cons ?_ (Obls.cons ?_ (Obls.cons ?_ (Obls.cons ?_ (Obls.cons ?_ (Obls.cons ?_ (Obls.cons ?_ (Obls.cons ?_ (Obls.cons ?_ (Obls.cons ?_ (Obls.cons ?_ (Obls.cons ?_ (Obls.nil)))))))))))))))))))))
          · intro ev wy hp hl hk hd
            clear hk
            clear hd
            refine Yield.call rfl hp Try.func13 rfl (by kernel_rfl) ?_
            simp only [List.map_toArray, List.map_nil]
            exact (recAlive_any wy).mono fun _ _ ⟨he, hb⟩ => ⟨_, he, hb, by first | rfl | simp⟩
          · intro ev wy hp hl hk hd
            have e19 : ev (.tmp 19) = .bool true := hk 19 (by decide)
            clear hk
            clear hd
            exact Yield.mv rfl ⟨Ext.refl _, e19⟩
          · intro ev wy hp hl hk hd
            have e6 : ev (.tmp 6) = .int .i64 0 := hk 6 (by decide)
            clear hk
            refine ⟨fun _ _ _ => ?_, fun _ hx hne => absurd hx hne⟩
            clear hd
            exact Yield.mv rfl ⟨Ext.refl _, e6⟩
          · intro ev wy hp hl hk hd
            have e21 : ev (.tmp 21) = .int .i64 0 := hk 21 (by decide)
            clear hk
            refine ⟨fun _ _ _ => ?_, fun _ hx hne => absurd hx hne⟩
            clear hd
            exact Yield.op (v := .bool false) (w' := wy) (by simp [execOp, go_sem, e21, hp.const]) ⟨Ext.refl _, rfl⟩
          · intro ev wy hp hl hk hd
            have e22 : ev (.tmp 22) = .bool false := hk 22 (by decide)
            clear hk
            refine ⟨fun _ _ _ => ?_, fun _ hx hne => absurd hx hne⟩
            clear hd
            exact Yield.mv rfl ⟨Ext.refl _, e22⟩
          · intro ev wy hp hl hk hd
            have e8 : ev (.tmp 8) = .int .i64 0 := hk 8 (by decide)
            clear hk
            refine ⟨fun _ _ _ => ?_, fun _ hx hne => absurd hx hne⟩
            clear hd
            exact Yield.mv rfl ⟨Ext.refl _, e8⟩
          · intro ev wy hp hl hk hd
            have e24 : ev (.tmp 24) = .int .i64 0 := hk 24 (by decide)
            clear hk
            refine ⟨fun _ _ _ => ?_, fun _ hx hne => absurd hx hne⟩
            clear hd
            exact Yield.op (v := .bool false) (w' := wy) (by simp [execOp, go_sem, e24, hp.const]) ⟨Ext.refl _, rfl⟩
          · intro ev wy hp hl hk hd
            have e23 : ev (.tmp 23) = .bool false := hk 23 (by decide)
            have e25 : ev (.tmp 25) = .bool false := hk 25 (by decide)
            clear hk
            refine ⟨fun _ _ _ => ?_, fun _ hx hne => absurd hx hne⟩
            clear hd
            exact Yield.pick (t := false) rfl e23 ⟨Ext.refl _, e25⟩
          · intro ev wy hp hl hk hd
            have e26 : ev (.tmp 26) = .bool false := hk 26 (by decide)
            clear hk
            refine ⟨fun _ _ _ => ?_, fun _ hx hne => absurd hx hne⟩
            clear hd
            exact Yield.mv rfl ⟨Ext.refl _, e26⟩
          · intro ev wy hp hl hk hd
            have e5 : ev (.tmp 5) = .slice a1 n1 c1 := hk 5 (by decide)
            clear hk
            refine ⟨fun _ _ _ => ?_, fun _ hx hne => absurd hx hne⟩
            clear hd
            exact Yield.mv rfl ⟨Ext.refl _, e5⟩
          · intro ev wy hp hl hk hd
            have e28 : ev (.tmp 28) = .slice a1 n1 c1 := hk 28 (by decide)
            clear hk
            refine ⟨fun _ _ _ => ?_, fun _ hx hne => absurd hx hne⟩
            clear hd
            exact Yield.conv rfl e28 (run_str _ _ 5 Try.underlying27 Try.underlying5 Try.underlying9 (HB1.out.below hl)) ⟨Ext.refl _, rfl⟩
          · intro ev wy hp hl hk hd
            have e7 : ev (.tmp 7) = .slice a2 n2 c2 := hk 7 (by decide)
            clear hk
            refine ⟨fun _ _ _ => ?_, fun _ hx hne => absurd hx hne⟩
            clear hd
            exact Yield.mv rfl ⟨Ext.refl _, e7⟩
          · intro ev wy hp hl hk hd
            have e30 : ev (.tmp 30) = .slice a2 n2 c2 := hk 30 (by decide)
            clear hk
            refine ⟨fun _ _ _ => ?_, fun _ hx hne => absurd hx hne⟩
            clear hd
            exact Yield.conv rfl e30 (run_str _ _ 5 Try.underlying27 Try.underlying5 Try.underlying9 (HB2.out.below hl)) ⟨Ext.refl _, rfl⟩
          · intro ev wy hp hl hk hd
            have e29 : ev (.tmp 29) = .string ⟨(Rec.enc a).toArray⟩ := hk 29 (by decide)
            have e31 : ev (.tmp 31) = .string ⟨(Rec.enc b).toArray⟩ := hk 31 (by decide)
            clear hk
            refine ⟨fun _ _ _ => ?_, fun _ hx hne => absurd hx hne⟩
            clear hd
            exact Yield.op (w' := wy) (by simp [execOp, go_sem, e29, e31]; exact HEQ.out) ⟨Ext.refl _, rfl⟩
          · intro ev wy hp hl hk hd
            have e2 : ev (.tmp 2) = .pointer (some ⟨h0, 0, none⟩) := hk 2 (by decide)
            clear hk
            refine ⟨fun _ _ _ => ?_, fun _ hx hne => absurd hx hne⟩
            clear hd
            exact Yield.ld rfl e2 (ld_rec (r := a) (heap_ext XA.out hl)) ⟨Ext.refl _, rfl⟩
          · intro ev wy hp hl hk hd
            have e3 : ev (.tmp 3) = .pointer (some ⟨h0 + 1, 0, none⟩) := hk 3 (by decide)
            clear hk
            refine ⟨fun _ _ _ => ?_, fun _ hx hne => absurd hx hne⟩
            clear hd
            exact Yield.ld rfl e3 (ld_rec (r := b) (heap_ext XB.out hl)) ⟨Ext.refl _, rfl⟩
          · intro ev wy hp hl hk hd
            have e33 : ev (.tmp 33) = .agg #[.int .i64 a.client, .int .i64 a.number, .slice p1 m1 k1, .string ⟨a.data.toArray⟩] := hk 33 (by decide)
            have e34 : ev (.tmp 34) = .agg #[.int .i64 b.client, .int .i64 b.number, .slice p2 m2 k2, .string ⟨b.data.toArray⟩] := hk 34 (by decide)
            clear hk
            refine ⟨fun _ _ _ => ?_, fun _ hx hne => absurd hx hne⟩
            clear hd
            refine Yield.call rfl hp Try.func18 rfl (by kernel_rfl) ?_
            simp only [List.map_toArray, List.map_cons, List.map_nil, e33, e34]
            exact ((HSAME.out ▸ refSame4_any _ _ a b wy (HV2.out.below hl) (HU2.out.below hl))).mono fun _ _ ⟨he, hb⟩ => ⟨_, he, hb, by first | rfl | simp⟩
          · intro ev wy hp hl hk hd
            have e32 : ev (.tmp 32) = .bool true := hk 32 (by decide)
            have e35 : ev (.tmp 35) = .bool true := hk 35 (by decide)
            clear hk
            refine ⟨fun _ _ _ => ?_, fun _ hx hne => absurd hx hne⟩
            clear hd
            exact Yield.op (v := .bool true) (w' := wy) (by simp [execOp, go_sem, e32, e35]) ⟨Ext.refl _, rfl⟩
          · intro ev wy hp hl hk hd
            have e27 : ev (.tmp 27) = .bool false := hk 27 (by decide)
            have e36 : ev (.tmp 36) = .bool true := hk 36 (by decide)
            clear hk
            refine ⟨fun _ _ _ => ?_, fun _ hx hne => absurd hx hne⟩
            clear hd
            exact Yield.pick (t := false) rfl e27 ⟨Ext.refl _, e36⟩
          · intro ev wy hp hl hk hd
            have e20 : ev (.tmp 20) = .bool true := hk 20 (by decide)
            have e37 : ev (.tmp 37) = .bool true := hk 37 (by decide)
            clear hk
            clear hd
            exact Yield.pick (t := true) rfl e20 ⟨Ext.refl _, e37⟩
          · intro ev wy hp hl hk hd
            have e38 : ev (.tmp 38) = .bool true := hk 38 (by decide)
            clear hk
            clear hd
            exact Yield.as rfl ⟨Ext.refl _, e38⟩
        · intro vals wz hz hv
          have g19 : vals 0 = .bool true := hv 0 (by decide)
          have g20 : vals 1 = .bool true := hv 1 (by decide)
          have g21 : vals 2 = .int .i64 0 := hv 2 (by decide)
          have g22 : vals 3 = .bool false := hv 3 (by decide)
          have g23 : vals 4 = .bool false := hv 4 (by decide)
          have g24 : vals 5 = .int .i64 0 := hv 5 (by decide)
          have g25 : vals 6 = .bool false := hv 6 (by decide)
          have g26 : vals 7 = .bool false := hv 7 (by decide)
          have g27 : vals 8 = .bool false := hv 8 (by decide)
          have g28 : vals 9 = .slice a1 n1 c1 := hv 9 (by decide)
          have g29 : vals 10 = .string ⟨(Rec.enc a).toArray⟩ := hv 10 (by decide)
          have g30 : vals 11 = .slice a2 n2 c2 := hv 11 (by decide)
          have g31 : vals 12 = .string ⟨(Rec.enc b).toArray⟩ := hv 12 (by decide)
          have g32 : vals 13 = .bool true := hv 13 (by decide)
          have g33 : vals 14 = .agg #[.int .i64 a.client, .int .i64 a.number, .slice p1 m1 k1, .string ⟨a.data.toArray⟩] := hv 14 (by decide)
          have g34 : vals 15 = .agg #[.int .i64 b.client, .int .i64 b.number, .slice p2 m2 k2, .string ⟨b.data.toArray⟩] := hv 15 (by decide)
          have g35 : vals 16 = .bool true := hv 16 (by decide)
          have g36 : vals 17 = .bool true := hv 17 (by decide)
          have g37 : vals 18 = .bool true := hv 18 (by decide)
          have g38 : vals 19 = .bool true := hv 19 (by decide)
          have g4 : vals 20 = .bool true := hv 20 (by decide)
          clear hv
          simp only [putAll, Act.put, List.setIfInBounds_toArray, List.set_cons_zero, List.set_cons_succ, g19, g20, g21, g22, g23, g24, g25, g26, g27, g28, g29, g30, g31, g32, g33, g34, g35, g36, g37, g38, g4]
          clear g19
          clear g20
          clear g21
          clear g22
          clear g23
          clear g24
          clear g25
          clear g26
          clear g27
          clear g28
          clear g29
          clear g30
          clear g31
          clear g32
          clear g33
          clear g34
          clear g35
          clear g36
          clear g37
          clear g38
          clear g4
          go_wp2_with fail
          go_ret
          exact ⟨rfl, hE3.trans hz⟩

namespace recordUnlike
theorem own : ownKnob Try.prog.godebug = none := by kernel_rfl
theorem laidOut : laidOutB Try.prog = true := by kernel_rfl
set_option linter.unusedVariables false in
set_option maxRecDepth 100000 in
theorem lifted (os : Os) (started : os.Started) (H : Type) (enc : TypeId × Value → H) :
    ReturnsInHanded {} Try.checked os 9 .any (Rows.recordUnlikeSpec.pre6 enc Try.prog Try.f9 Rows.recordUnlikeRow.domain false) (Rows.recordUnlikeSpec.post enc Try.prog Try.f9 false true false false) := by
  refine returnsInHanded_of_change_sized (C := Try.checked) own started (by kernel_rfl) Try.func9
    (ChangeSpec.witness6 (enc := enc) (C := Try.checked) false ⟨#[], #[.agg #[.int .i64 0, .int .i64 0, .slice none 0 0, .string ByteArray.empty], .agg #[.int .i64 0, .int .i64 0, .slice none 0 0, .string ByteArray.empty]], []⟩ 8 (by kernel_rfl) (by kernel_rfl) (by kernel_rfl) (by kernel_rfl)) ?_
  intro W base args ds gs before hval0 hW hcnd hsz _
  have hval : ∀ (j : Nat) t v, Try.f9.params[j]? = some t → args[j]? = some v → Value.okWide Try.prog W .any base t v := hval0
  have hW' := hW
  obtain ⟨p, q, hA0, hV, rfl, hfz, hnd⟩ := hW'
  have hA : DataW.TrodAll enc Try.prog W 0 (fun _ => true) true Try.f9.params.toList args.toList ds p := hA0
  rw [Try.params9] at hA hval
  obtain ⟨v0, vs0, d0, ds0, p0, q0, hargs, rfl, rfl, h0, r0⟩ := trodAll_cons hA
  obtain ⟨v1, vs1, d1, ds1, p1, q1, rfl, rfl, rfl, h1, r1⟩ := trodAll_cons r0
  obtain ⟨rfl, rfl, rfl⟩ := trodAll_nil r1
  obtain rfl : args = #[v0, v1] := by cases args; simp_all
  obtain ⟨rfl, rfl⟩ := trodVars_none hV
  have k0 := h0
  have lt0 : ∀ x ∈ p0, x.block < W.heap.size := by obtain ⟨m, hm⟩ := k0; exact DataW.trod_lt m _ _ _ hm
  obtain ⟨l0, w0⟩ := rec_arg (hval 0 26 v0 rfl rfl) h0
  have k1 := h1
  have lt1 : ∀ x ∈ p1, x.block < W.heap.size := by obtain ⟨m, hm⟩ := k1; exact DataW.trod_lt m _ _ _ hm
  obtain ⟨l1, w1⟩ := rec_arg (hval 1 26 v1 rfl rfl) h1
  clear hA0 hval0
  refine (recordUnlike_walk v0 v1 l0 l1 W w0 w1).mono fun e W' ⟨he, bel⟩ => ?_
  subst he
  exact ⟨_, rfl, _, _, _, [], _, [], hW, trodAll_mk1 (shut_bool Try.underlying4 _), (trodAll_cons_mk (Below.trod laidOut (by kernel_rfl) (of_decide_eq_true (by kernel_rfl)) k0 bel lt0) (trodAll_cons_mk (Below.trod laidOut (by kernel_rfl) (of_decide_eq_true (by kernel_rfl)) k1 bel lt1) trodAll_mk0)), rfl, bel.frame _, fun h => by cases h⟩
theorem over : Rows.recordUnlikeRow.holds Try.pinned (OpenSpec.ofChange Rows.recordUnlikeSpec) :=
  OpenClaim.holds_of_wide 9 Try.f9 rfl rfl rfl rfl rfl rfl rfl ⟨rfl, rfl, rfl, rfl, rfl⟩ rfl rfl rfl rfl rfl (by kernel_rfl) Try.func9 (by kernel_rfl)
    (of_decide_eq_true (by kernel_rfl)) (by unfold Func.isWrapper; first | (rw [if_pos (by decide +kernel)]; kernel_rfl) | (rw [if_neg (by decide +kernel)]; exact ⟨rfl, rfl⟩))
    (fun os started H enc _ => lifted os started H enc)
theorem proved : Rows.RecordUnlikeSaid := over
end recordUnlike
end Go.Proofs.Ytjflbjlpibekhaa
