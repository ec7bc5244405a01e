/-
  MessageLong: no message is longer than its parts may be, and a message of two kinds is none: for every input the statement's function returns true, and leaves what came in as it was.
-/
import Derived.Test.YtoihkcoleofmnaaGreatMsgZ
namespace Go.Proofs.YtoihkcoleofmnaaGreat
set_option maxRecDepth 100000
set_option linter.unusedSimpArgs false
set_option linter.unusedVariables false
open Go.ChangeShapes Go.WideShapes Go.ChangeAt Go.RowKit

def IsSl (v : Value) : Prop := ∃ a n c, v = .slice a n c

set_option maxHeartbeats 64000000 in
theorem messageLong_walk (v : Value) (m : Msg.M) (kind : Int) (W : World) (hv : IsMsg W v m) : Calls Tryz.prog 8 #[v, .int .i64 kind] W fun e W' => e = .returned (.bool true) ∧ Below W.heap.size W W' := by
  have hbx := box_msgR
  obtain ⟨rt, et, sv, dv, rfl, hM⟩ := hv.block
  have HM := Lib.hid hM
  have hE0 := Ext.alloc W (.cells (msgCells m rt et sv dv) 35)
  obtain ⟨i1, i2, i3, i4⟩ : IsSl rt ∧ IsSl et ∧ IsSl sv ∧ IsSl dv := ⟨intsSlice hM.hr, intsSlice hM.he, intsSlice hM.hs, irowsSlice hM.hd⟩
  have I1 := Lib.hid i1
  have I2 := Lib.hid i2
  have I3 := Lib.hid i3
  have I4 := Lib.hid i4
  clear hM hv i1 i2 i3 i4
  go_enter Tryz.func8, Tryz.ntmps8
  go_wp2_with (refine ldMR (by rfl) _ rfl rfl HM.out ?_)
  refine (few7_any _ m _ HM.out.isMsg).mono ?_
  rintro e w1 ⟨⟨fb, rfl⟩, hE1⟩
  have M1 := Lib.hid (HM.out.ext hE1)
  have e1 := Lib.hid (hE0.trans hE1)
  obtain ⟨q, hq⟩ : ∃ q, W.heap.size = q := ⟨_, rfl⟩
  rw [hq] at M1 ⊢
  clear hq hE1 hE0 HM hbx

  cases fb with
  | false =>
    go_wp2_with fail
    refine (alive7_any _).mono ?_
    rintro e w2 ⟨rfl, hE2⟩
    go_wp2_with fail
    go_ret
    exact ⟨rfl, e1.out.trans hE2⟩
  | true =>
    cases hr1 : Msg.right m with
    | false =>
      have HR1 := Lib.hid hr1
      cases hr2 : Msg.right { m with kind := kind } with
      | false =>
        have HR2 := Lib.hid hr2
        clear hr1 hr2
        go_wp2_with (refine ldMR (by rfl) _ rfl rfl M1.out ?_)
        refine (own7_any _ m _ M1.out.isMsg).mono ?_
        rintro e w2 ⟨u2, rfl, hu2, hE2⟩
        have M2 := Lib.hid (M1.out.ext hE2)
        have e2 := Lib.hid (e1.out.trans hE2)
        have HU2 := Lib.hid hu2
        clear hu2 hE2
        go_wp2_with fail
        refine (encode7_any u2 m _ HU2.out).mono ?_
        unfold GivesEnc7
        rw [HR1.out]
        rintro e w3 ⟨u3, rfl, hb3, hE3⟩
        have M3 := Lib.hid (M2.out.ext hE3)
        have e3 := Lib.hid (e2.out.trans hE3)
        have HB3 := Lib.hid hb3
        obtain ⟨b1, b3, rfl, _⟩ := hb3.open
        have hn3 : (u8s (bytesOr false (Msg.enc m))).length = (bytesOr false (Msg.enc m)).length := by simp
        clear hb3 hE3
        go_wp2_with (first
          | (refine ldMR (by rfl) _ rfl rfl M3.out ?_)
          | (refine allocMR (by rfl) rfl ?_; intro W4 q4 hat4 hE4 hq4)
          | (refine putMR (m2 := m) (r2 := rt) (e2 := et) (s2 := sv) (d2 := dv) (by rfl) _ _ rfl rfl rfl hat4.out I1.out I2.out I3.out I4.out ?_; intro W5 hat5 hB5)
          | (refine putMR_kind (n := kind) (by rfl) _ _ rfl rfl rfl hat5.out ?_; intro W6 hat6 hB6; have hn4 := hq4.out; have E36 := Lib.hid (show Ext w3 W6 from Below.trans (B := w3.heap.size) (Below.trans (B := w3.heap.size) hE4.out (hB5.out.below (by omega) hE4.out.size)) (hB6.out.below (by omega) (Nat.le_trans hE4.out.size hB5.out.size))); have X6 := Lib.hid (show Msg7 35 W6 q4 { m with kind := kind } rt et sv dv from ⟨hat6.out, M3.out.hr.below E36.out, M3.out.he.below E36.out, M3.out.hs.below E36.out, M3.out.hd.below E36.out⟩); clear hn4)
          | (refine ldMR (by rfl) _ rfl rfl X6.out ?_))
        have e6 := Lib.hid (e3.out.trans E36.out)
        have M6 := Lib.hid (M3.out.ext E36.out)
        have HB6 := Lib.hid (HB3.out.below E36.out)
        clear hat4 hE4 hq4 hat5 hB5 hat6 hB6
        refine (own7_any _ { m with kind := kind } _ X6.out.isMsg).mono ?_
        rintro e w7 ⟨u7, rfl, hu7, hE7⟩
        have HU7 := Lib.hid hu7
        clear hu7
        go_wp2_with fail
        refine (encode7_any u7 { m with kind := kind } _ HU7.out).mono ?_
        unfold GivesEnc7
        rw [HR2.out]
        rintro e w8 ⟨u8, rfl, hb8, hE8⟩
        have M8 := Lib.hid ((M6.out.ext hE7).ext hE8)
        have X8 := Lib.hid ((X6.out.ext hE7).ext hE8)
        have e8 := Lib.hid ((e6.out.trans hE7).trans hE8)
        have HB3' := Lib.hid ((HB6.out.below hE7).below hE8)
        have HB8 := Lib.hid hb8
        obtain ⟨d1, d3, rfl, _⟩ := hb8.open
        clear hb8 hE7 hE8 M1 M2 M3 M6 X6
        go_wp2_with fail
        refine (alive7_any _).mono ?_
        rintro e wv ⟨rfl, hEv⟩
        go_wp2_with fail
        go_ret
        exact ⟨rfl, e8.out.trans hEv⟩
      | true =>
        have HR2 := Lib.hid hr2
        clear hr1 hr2
        go_wp2_with (refine ldMR (by rfl) _ rfl rfl M1.out ?_)
        refine (own7_any _ m _ M1.out.isMsg).mono ?_
        rintro e w2 ⟨u2, rfl, hu2, hE2⟩
        have M2 := Lib.hid (M1.out.ext hE2)
        have e2 := Lib.hid (e1.out.trans hE2)
        have HU2 := Lib.hid hu2
        clear hu2 hE2
        go_wp2_with fail
        refine (encode7_any u2 m _ HU2.out).mono ?_
        unfold GivesEnc7
        rw [HR1.out]
        rintro e w3 ⟨u3, rfl, hb3, hE3⟩
        have M3 := Lib.hid (M2.out.ext hE3)
        have e3 := Lib.hid (e2.out.trans hE3)
        have HB3 := Lib.hid hb3
        obtain ⟨b1, b3, rfl, _⟩ := hb3.open
        have hn3 : (u8s (bytesOr false (Msg.enc m))).length = (bytesOr false (Msg.enc m)).length := by simp
        clear hb3 hE3
        go_wp2_with (first
          | (refine ldMR (by rfl) _ rfl rfl M3.out ?_)
          | (refine allocMR (by rfl) rfl ?_; intro W4 q4 hat4 hE4 hq4)
          | (refine putMR (m2 := m) (r2 := rt) (e2 := et) (s2 := sv) (d2 := dv) (by rfl) _ _ rfl rfl rfl hat4.out I1.out I2.out I3.out I4.out ?_; intro W5 hat5 hB5)
          | (refine putMR_kind (n := kind) (by rfl) _ _ rfl rfl rfl hat5.out ?_; intro W6 hat6 hB6; have hn4 := hq4.out; have E36 := Lib.hid (show Ext w3 W6 from Below.trans (B := w3.heap.size) (Below.trans (B := w3.heap.size) hE4.out (hB5.out.below (by omega) hE4.out.size)) (hB6.out.below (by omega) (Nat.le_trans hE4.out.size hB5.out.size))); have X6 := Lib.hid (show Msg7 35 W6 q4 { m with kind := kind } rt et sv dv from ⟨hat6.out, M3.out.hr.below E36.out, M3.out.he.below E36.out, M3.out.hs.below E36.out, M3.out.hd.below E36.out⟩); clear hn4)
          | (refine ldMR (by rfl) _ rfl rfl X6.out ?_))
        have e6 := Lib.hid (e3.out.trans E36.out)
        have M6 := Lib.hid (M3.out.ext E36.out)
        have HB6 := Lib.hid (HB3.out.below E36.out)
        clear hat4 hE4 hq4 hat5 hB5 hat6 hB6
        refine (own7_any _ { m with kind := kind } _ X6.out.isMsg).mono ?_
        rintro e w7 ⟨u7, rfl, hu7, hE7⟩
        have HU7 := Lib.hid hu7
        clear hu7
        go_wp2_with fail
        refine (encode7_any u7 { m with kind := kind } _ HU7.out).mono ?_
        unfold GivesEnc7
        rw [HR2.out]
        rintro e w8 ⟨u8, rfl, hb8, hE8⟩
        have M8 := Lib.hid ((M6.out.ext hE7).ext hE8)
        have X8 := Lib.hid ((X6.out.ext hE7).ext hE8)
        have e8 := Lib.hid ((e6.out.trans hE7).trans hE8)
        have HB3' := Lib.hid ((HB6.out.below hE7).below hE8)
        have HB8 := Lib.hid hb8
        obtain ⟨d1, d3, rfl, _⟩ := hb8.open
        clear hb8 hE7 hE8 M1 M2 M3 M6 X6
        go_wp2_with (refine ldMR (by rfl) _ rfl rfl X8.out ?_)
        refine (refRight7_any _ { m with kind := kind } _ X8.out.isMsg).mono ?_
        rw [HR2.out]
        rintro e w9 ⟨rfl, hE9⟩
        go_wp2_with fail
        refine (alive7_any _).mono ?_
        rintro e wv ⟨rfl, hEv⟩
        go_wp2_with fail
        go_ret
        exact ⟨rfl, (e8.out.trans hE9).trans hEv⟩
    | true =>
      have HR1 := Lib.hid hr1
      cases hr2 : Msg.right { m with kind := kind } with
      | false =>
        have HR2 := Lib.hid hr2
        clear hr1 hr2
        go_wp2_with (refine ldMR (by rfl) _ rfl rfl M1.out ?_)
        refine (own7_any _ m _ M1.out.isMsg).mono ?_
        rintro e w2 ⟨u2, rfl, hu2, hE2⟩
        have M2 := Lib.hid (M1.out.ext hE2)
        have e2 := Lib.hid (e1.out.trans hE2)
        have HU2 := Lib.hid hu2
        clear hu2 hE2
        go_wp2_with fail
        refine (encode7_any u2 m _ HU2.out).mono ?_
        unfold GivesEnc7
        rw [HR1.out]
        rintro e w3 ⟨u3, rfl, hb3, hE3⟩
        have M3 := Lib.hid (M2.out.ext hE3)
        have e3 := Lib.hid (e2.out.trans hE3)
        have HB3 := Lib.hid hb3
        obtain ⟨b1, b3, rfl, _⟩ := hb3.open
        have hn3 : (u8s (bytesOr true (Msg.enc m))).length = (bytesOr true (Msg.enc m)).length := by simp
        clear hb3 hE3
        go_wp2_with (first
          | (refine ldMR (by rfl) _ rfl rfl M3.out ?_)
          | (refine allocMR (by rfl) rfl ?_; intro W4 q4 hat4 hE4 hq4)
          | (refine putMR (m2 := m) (r2 := rt) (e2 := et) (s2 := sv) (d2 := dv) (by rfl) _ _ rfl rfl rfl hat4.out I1.out I2.out I3.out I4.out ?_; intro W5 hat5 hB5)
          | (refine putMR_kind (n := kind) (by rfl) _ _ rfl rfl rfl hat5.out ?_; intro W6 hat6 hB6; have hn4 := hq4.out; have E36 := Lib.hid (show Ext w3 W6 from Below.trans (B := w3.heap.size) (Below.trans (B := w3.heap.size) hE4.out (hB5.out.below (by omega) hE4.out.size)) (hB6.out.below (by omega) (Nat.le_trans hE4.out.size hB5.out.size))); have X6 := Lib.hid (show Msg7 35 W6 q4 { m with kind := kind } rt et sv dv from ⟨hat6.out, M3.out.hr.below E36.out, M3.out.he.below E36.out, M3.out.hs.below E36.out, M3.out.hd.below E36.out⟩); clear hn4)
          | (refine ldMR (by rfl) _ rfl rfl X6.out ?_))
        have e6 := Lib.hid (e3.out.trans E36.out)
        have M6 := Lib.hid (M3.out.ext E36.out)
        have HB6 := Lib.hid (HB3.out.below E36.out)
        clear hat4 hE4 hq4 hat5 hB5 hat6 hB6
        refine (own7_any _ { m with kind := kind } _ X6.out.isMsg).mono ?_
        rintro e w7 ⟨u7, rfl, hu7, hE7⟩
        have HU7 := Lib.hid hu7
        clear hu7
        go_wp2_with fail
        refine (encode7_any u7 { m with kind := kind } _ HU7.out).mono ?_
        unfold GivesEnc7
        rw [HR2.out]
        rintro e w8 ⟨u8, rfl, hb8, hE8⟩
        have M8 := Lib.hid ((M6.out.ext hE7).ext hE8)
        have X8 := Lib.hid ((X6.out.ext hE7).ext hE8)
        have e8 := Lib.hid ((e6.out.trans hE7).trans hE8)
        have HB3' := Lib.hid ((HB6.out.below hE7).below hE8)
        have HB8 := Lib.hid hb8
        obtain ⟨d1, d3, rfl, _⟩ := hb8.open
        clear hb8 hE7 hE8 M1 M2 M3 M6 X6
        have hle2 : ¬ (2000 : Int) < ((Msg.enc m).length : Int) := by have := Msg.enc_le HR1.out; omega
        go_wp2_with fail
        refine (alive7_any _).mono ?_
        rintro e wv ⟨rfl, hEv⟩
        go_wp2_with fail
        go_ret
        exact ⟨rfl, e8.out.trans hEv⟩
      | true =>
        have HR2 := Lib.hid hr2
        cases hk : (kind == m.kind) with
        | false =>
          have HKN := Lib.hid hk
          have HKE := Lib.hid (Msg.kind_enc Ent.vd_back hr1 hr2 (fun h => by rw [beq_eq_false_iff_ne] at hk; exact hk h.symm))
          clear hr1 hr2 hk
          go_wp2_with (refine ldMR (by rfl) _ rfl rfl M1.out ?_)
          refine (own7_any _ m _ M1.out.isMsg).mono ?_
          rintro e w2 ⟨u2, rfl, hu2, hE2⟩
          have M2 := Lib.hid (M1.out.ext hE2)
          have e2 := Lib.hid (e1.out.trans hE2)
          have HU2 := Lib.hid hu2
          clear hu2 hE2
          go_wp2_with fail
          refine (encode7_any u2 m _ HU2.out).mono ?_
          unfold GivesEnc7
          rw [HR1.out]
          rintro e w3 ⟨u3, rfl, hb3, hE3⟩
          have M3 := Lib.hid (M2.out.ext hE3)
          have e3 := Lib.hid (e2.out.trans hE3)
          have HB3 := Lib.hid hb3
          obtain ⟨b1, b3, rfl, _⟩ := hb3.open
          have hn3 : (u8s (bytesOr true (Msg.enc m))).length = (bytesOr true (Msg.enc m)).length := by simp
          clear hb3 hE3
          go_wp2_with (first
            | (refine ldMR (by rfl) _ rfl rfl M3.out ?_)
            | (refine allocMR (by rfl) rfl ?_; intro W4 q4 hat4 hE4 hq4)
            | (refine putMR (m2 := m) (r2 := rt) (e2 := et) (s2 := sv) (d2 := dv) (by rfl) _ _ rfl rfl rfl hat4.out I1.out I2.out I3.out I4.out ?_; intro W5 hat5 hB5)
            | (refine putMR_kind (n := kind) (by rfl) _ _ rfl rfl rfl hat5.out ?_; intro W6 hat6 hB6; have hn4 := hq4.out; have E36 := Lib.hid (show Ext w3 W6 from Below.trans (B := w3.heap.size) (Below.trans (B := w3.heap.size) hE4.out (hB5.out.below (by omega) hE4.out.size)) (hB6.out.below (by omega) (Nat.le_trans hE4.out.size hB5.out.size))); have X6 := Lib.hid (show Msg7 35 W6 q4 { m with kind := kind } rt et sv dv from ⟨hat6.out, M3.out.hr.below E36.out, M3.out.he.below E36.out, M3.out.hs.below E36.out, M3.out.hd.below E36.out⟩); clear hn4)
            | (refine ldMR (by rfl) _ rfl rfl X6.out ?_))
          have e6 := Lib.hid (e3.out.trans E36.out)
          have M6 := Lib.hid (M3.out.ext E36.out)
          have HB6 := Lib.hid (HB3.out.below E36.out)
          clear hat4 hE4 hq4 hat5 hB5 hat6 hB6
          refine (own7_any _ { m with kind := kind } _ X6.out.isMsg).mono ?_
          rintro e w7 ⟨u7, rfl, hu7, hE7⟩
          have HU7 := Lib.hid hu7
          clear hu7
          go_wp2_with fail
          refine (encode7_any u7 { m with kind := kind } _ HU7.out).mono ?_
          unfold GivesEnc7
          rw [HR2.out]
          rintro e w8 ⟨u8, rfl, hb8, hE8⟩
          have M8 := Lib.hid ((M6.out.ext hE7).ext hE8)
          have X8 := Lib.hid ((X6.out.ext hE7).ext hE8)
          have e8 := Lib.hid ((e6.out.trans hE7).trans hE8)
          have HB3' := Lib.hid ((HB6.out.below hE7).below hE8)
          have HB8 := Lib.hid hb8
          obtain ⟨d1, d3, rfl, _⟩ := hb8.open
          clear hb8 hE7 hE8 M1 M2 M3 M6 X6
          have hle2 : ¬ (2000 : Int) < ((Msg.enc m).length : Int) := by have := Msg.enc_le HR1.out; omega
          go_wp2_with (refine ldMR (by rfl) _ rfl rfl X8.out ?_)
          refine (refRight7_any _ { m with kind := kind } _ X8.out.isMsg).mono ?_
          rw [HR2.out]
          rintro e w9 ⟨rfl, hE9⟩
          have M9 := Lib.hid (M8.out.ext hE9)
          have e9 := Lib.hid (e8.out.trans hE9)
          go_wp2_with fail
          refine (alive7_any _).mono ?_
          rintro e wv ⟨rfl, hEv⟩
          have ck := (M9.out.ext hEv).at_.head.1
          have hst := run_str (P := Tryz.prog) 38 9 5 Tryz.underlying38 Tryz.underlying5 Tryz.underlying9 ((HB3'.out.below hE9).below hEv)
          have hst2 := run_str (P := Tryz.prog) 38 9 5 Tryz.underlying38 Tryz.underlying5 Tryz.underlying9 ((HB8.out.below hE9).below hEv)
          rw [bytesOr_true] at hst hst2
          have hzz : (Msg.enc m == Msg.enc { m with kind := kind }) = false := HKE.out
          have hkk : (kind == m.kind) = false := HKN.out
          generalize Msg.enc m = A1 at *
          generalize Msg.enc { m with kind := kind } = A2 at *
          go_wp2_with fail
          go_ret
          exact ⟨rfl, e9.out.trans hEv⟩
        | true =>
          have HKN := Lib.hid hk
          clear hr1 hr2 hk
          go_wp2_with (refine ldMR (by rfl) _ rfl rfl M1.out ?_)
          refine (own7_any _ m _ M1.out.isMsg).mono ?_
          rintro e w2 ⟨u2, rfl, hu2, hE2⟩
          have M2 := Lib.hid (M1.out.ext hE2)
          have e2 := Lib.hid (e1.out.trans hE2)
          have HU2 := Lib.hid hu2
          clear hu2 hE2
          go_wp2_with fail
          refine (encode7_any u2 m _ HU2.out).mono ?_
          unfold GivesEnc7
          rw [HR1.out]
          rintro e w3 ⟨u3, rfl, hb3, hE3⟩
          have M3 := Lib.hid (M2.out.ext hE3)
          have e3 := Lib.hid (e2.out.trans hE3)
          have HB3 := Lib.hid hb3
          obtain ⟨b1, b3, rfl, _⟩ := hb3.open
          have hn3 : (u8s (bytesOr true (Msg.enc m))).length = (bytesOr true (Msg.enc m)).length := by simp
          clear hb3 hE3
          go_wp2_with (first
            | (refine ldMR (by rfl) _ rfl rfl M3.out ?_)
            | (refine allocMR (by rfl) rfl ?_; intro W4 q4 hat4 hE4 hq4)
            | (refine putMR (m2 := m) (r2 := rt) (e2 := et) (s2 := sv) (d2 := dv) (by rfl) _ _ rfl rfl rfl hat4.out I1.out I2.out I3.out I4.out ?_; intro W5 hat5 hB5)
            | (refine putMR_kind (n := kind) (by rfl) _ _ rfl rfl rfl hat5.out ?_; intro W6 hat6 hB6; have hn4 := hq4.out; have E36 := Lib.hid (show Ext w3 W6 from Below.trans (B := w3.heap.size) (Below.trans (B := w3.heap.size) hE4.out (hB5.out.below (by omega) hE4.out.size)) (hB6.out.below (by omega) (Nat.le_trans hE4.out.size hB5.out.size))); have X6 := Lib.hid (show Msg7 35 W6 q4 { m with kind := kind } rt et sv dv from ⟨hat6.out, M3.out.hr.below E36.out, M3.out.he.below E36.out, M3.out.hs.below E36.out, M3.out.hd.below E36.out⟩); clear hn4)
            | (refine ldMR (by rfl) _ rfl rfl X6.out ?_))
          have e6 := Lib.hid (e3.out.trans E36.out)
          have M6 := Lib.hid (M3.out.ext E36.out)
          have HB6 := Lib.hid (HB3.out.below E36.out)
          clear hat4 hE4 hq4 hat5 hB5 hat6 hB6
          refine (own7_any _ { m with kind := kind } _ X6.out.isMsg).mono ?_
          rintro e w7 ⟨u7, rfl, hu7, hE7⟩
          have HU7 := Lib.hid hu7
          clear hu7
          go_wp2_with fail
          refine (encode7_any u7 { m with kind := kind } _ HU7.out).mono ?_
          unfold GivesEnc7
          rw [HR2.out]
          rintro e w8 ⟨u8, rfl, hb8, hE8⟩
          have M8 := Lib.hid ((M6.out.ext hE7).ext hE8)
          have X8 := Lib.hid ((X6.out.ext hE7).ext hE8)
          have e8 := Lib.hid ((e6.out.trans hE7).trans hE8)
          have HB3' := Lib.hid ((HB6.out.below hE7).below hE8)
          have HB8 := Lib.hid hb8
          obtain ⟨d1, d3, rfl, _⟩ := hb8.open
          clear hb8 hE7 hE8 M1 M2 M3 M6 X6
          have hle2 : ¬ (2000 : Int) < ((Msg.enc m).length : Int) := by have := Msg.enc_le HR1.out; omega
          go_wp2_with (refine ldMR (by rfl) _ rfl rfl X8.out ?_)
          refine (refRight7_any _ { m with kind := kind } _ X8.out.isMsg).mono ?_
          rw [HR2.out]
          rintro e w9 ⟨rfl, hE9⟩
          have M9 := Lib.hid (M8.out.ext hE9)
          have e9 := Lib.hid (e8.out.trans hE9)
          go_wp2_with fail
          refine (alive7_any _).mono ?_
          rintro e wv ⟨rfl, hEv⟩
          have ck := (M9.out.ext hEv).at_.head.1
          have hst := run_str (P := Tryz.prog) 38 9 5 Tryz.underlying38 Tryz.underlying5 Tryz.underlying9 ((HB3'.out.below hE9).below hEv)
          have hst2 := run_str (P := Tryz.prog) 38 9 5 Tryz.underlying38 Tryz.underlying5 Tryz.underlying9 ((HB8.out.below hE9).below hEv)
          rw [bytesOr_true] at hst hst2
          have hkk : (kind == m.kind) = true := HKN.out
          go_wp2_with fail
          go_ret
          exact ⟨rfl, e9.out.trans hEv⟩

namespace messageLong
theorem own : ownKnob Tryz.prog.godebug = none := by kernel_rfl
theorem laidOut : laidOutB Tryz.prog = true := by kernel_rfl
set_option linter.unusedVariables false in
set_option maxRecDepth 100000 in
theorem lifted (os : Os) (started : os.Started) (H : Type) (enc : TypeId × Value → H) :
    ReturnsInHanded {} Tryz.checked os 8 .any (Rows.messageLongSpec.pre6 enc Tryz.prog Tryz.f8 Rows.messageLongRow.domain false) (Rows.messageLongSpec.post enc Tryz.prog Tryz.f8 false true false false) := by
  refine returnsInHanded_of_change_sized (C := Tryz.checked) own started (by kernel_rfl) Tryz.func8
    (ChangeSpec.witness6 (enc := enc) (C := Tryz.checked) false ⟨#[], #[.agg #[.int .i64 0, .int .i64 0, .int .i64 0, .int .i64 0, .int .i64 0, .int .i64 0, .bool false, .int .i64 0, .int .i64 0, .slice none 0 0, .string ByteArray.empty, .int .i64 0, .int .i64 0, .slice none 0 0, .int .i64 0, .int .i64 0, .int .i64 0, .int .i64 0, .int .i64 0, .int .i64 0, .slice none 0 0, .slice none 0 0], .int .i64 0], []⟩ 8 (by kernel_rfl) (by kernel_rfl) (by kernel_rfl) (by kernel_rfl)) ?_
  intro W base args ds gs before hval0 hW hcnd hsz _
  have hval : ∀ (j : Nat) t v, Tryz.f8.params[j]? = some t → args[j]? = some v → Value.okWide Tryz.prog W .any base t v := hval0
  have hW' := hW
  obtain ⟨p, q, hA0, hV, rfl, hfz, hnd⟩ := hW'
  have hA : DataW.TrodAll enc Tryz.prog W 0 (fun _ => true) true Tryz.f8.params.toList args.toList ds p := hA0
  rw [Tryz.params8] at hA hval
  obtain ⟨v0, vs0, d0, ds0, p0, q0, hargs, rfl, rfl, h0, r0⟩ := trodAll_cons hA
  obtain ⟨v1, vs1, d1, ds1, p1, q1, rfl, rfl, rfl, h1, r1⟩ := trodAll_cons r0
  obtain ⟨rfl, rfl, rfl⟩ := trodAll_nil r1
  obtain rfl : args = #[v0, v1] := by cases args; simp_all
  obtain ⟨rfl, rfl⟩ := trodVars_none hV
  have k0 := h0
  have lt0 : ∀ x ∈ p0, x.block < W.heap.size := by obtain ⟨m, hm⟩ := k0; exact DataW.trod_lt m _ _ _ hm
  obtain ⟨l0, w0⟩ := msg_arg (hval 0 35 v0 rfl rfl) h0
  have k1 := h1
  have lt1 : ∀ x ∈ p1, x.block < W.heap.size := by obtain ⟨m, hm⟩ := k1; exact DataW.trod_lt m _ _ _ hm
  obtain ⟨a1, rfl, _, _, w1⟩ := open_int Tryz.underlying3 (hval 1 3 v1 rfl rfl) h1
  clear hA0 hval0
  refine (messageLong_walk _ l0 _ W w0).mono fun e W' ⟨he, bel⟩ => ?_
  subst he
  exact ⟨_, rfl, _, _, _, [], _, [], hW, trodAll_mk1 (shut_bool Tryz.underlying4 _), (trodAll_cons_mk (Below.trod laidOut (by kernel_rfl) (of_decide_eq_true (by kernel_rfl)) k0 bel lt0) (trodAll_cons_mk (Below.trod laidOut (by kernel_rfl) (of_decide_eq_true (by kernel_rfl)) k1 bel lt1) trodAll_mk0)), rfl, bel.frame _, fun h => by cases h⟩
theorem over : Rows.messageLongRow.holds Tryz.pinned (OpenSpec.ofChange Rows.messageLongSpec) :=
  OpenClaim.holds_of_wide 8 Tryz.f8 rfl rfl rfl rfl rfl rfl rfl ⟨rfl, rfl, rfl, rfl, rfl⟩ rfl rfl rfl rfl rfl (by kernel_rfl) Tryz.func8 (by kernel_rfl)
    (of_decide_eq_true (by kernel_rfl)) (by unfold Func.isWrapper; first | (rw [if_pos (by decide +kernel)]; kernel_rfl) | (rw [if_neg (by decide +kernel)]; exact ⟨rfl, rfl⟩))
    (fun os started H enc _ => lifted os started H enc)
theorem proved : Rows.MessageLongSaid := over
end messageLong
end Go.Proofs.YtoihkcoleofmnaaGreat
