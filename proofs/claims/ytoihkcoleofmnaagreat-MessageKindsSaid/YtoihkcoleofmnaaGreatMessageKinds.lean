/-
  MessageKinds: a message with a field more than its kind has is refused: for every input the statement's function returns true, and leaves what came in as it was.
-/
import Derived.Test.YtoihkcoleofmnaaGreatMsgZ
namespace Go.Proofs.YtoihkcoleofmnaaGreat
set_option maxRecDepth 100000
set_option linter.unusedSimpArgs false
set_option linter.unusedVariables false
open Go.ChangeShapes Go.WideShapes Go.ChangeAt Go.RowKit

theorem dataLe {m : Msg.M} (h : Msg.right m = true) : m.reco.data.length ≤ 100000 := by
  obtain ⟨_, hi⟩ := Msg.right_is h
  have h0 : (Msg.rec0).data.length ≤ 100000 := Nat.zero_le _
  cases hi with
  | one k1 b o i r e c => have := (Rec.right_ok r).2.2.2.2.2; omega
  | two k1 b o i r e c => rw [r]; exact h0
  | three k1 b o i s n r e c => rw [r]; exact h0
  | four k1 b o s r e c => rw [r]; exact h0
  | five k1 b o i s n r e c => rw [r]; exact h0
  | seven k1 b o i s n r e c => rw [r]; exact h0
  | eight0 k1 b o i s n r e c => rw [r]; exact h0
  | eight k1 b o i s n r e c t => rw [r]; exact h0
  | nine k1 b o i s n r e c t => rw [r]; exact h0
  | ten k1 b o s n r e c => rw [r]; exact h0
def IsSl (v : Value) : Prop := ∃ a n c, v = .slice a n c

set_option maxHeartbeats 64000000 in
theorem messageKinds_walk (v : Value) (m : Msg.M) (field : Int) (W : World) (hv : IsMsg W v m) : Calls Tryz.prog 7 #[v, .int .i64 field] W fun e W' => e = .returned (.bool true) ∧ Below W.heap.size W W' := by
  have hbx := box_msgR
  obtain ⟨rt, et, sv, dv, rfl, hM⟩ := hv.block
  have HM := Lib.hid hM
  have hE0 := Ext.alloc W (.cells (msgCells m rt et sv dv) 35)
  obtain ⟨i1, i2, i3, i4⟩ : IsSl rt ∧ IsSl et ∧ IsSl sv ∧ IsSl dv := ⟨intsSlice hM.hr, intsSlice hM.he, intsSlice hM.hs, irowsSlice hM.hd⟩
  have I1 := Lib.hid i1
  have I2 := Lib.hid i2
  have I3 := Lib.hid i3
  have I4 := Lib.hid i4
  clear hM hv i1 i2 i3 i4
  go_enter Tryz.func7, Tryz.ntmps7
  go_wp2_with (refine ldMR (by rfl) _ rfl rfl HM.out ?_)
  refine (few7_any _ m _ HM.out.isMsg).mono ?_
  rintro e w1 ⟨⟨fb, rfl⟩, hE1⟩
  have M1 := Lib.hid (HM.out.ext hE1)
  have e1 := Lib.hid (hE0.trans hE1)
  obtain ⟨q, hq⟩ : ∃ q, W.heap.size = q := ⟨_, rfl⟩
  rw [hq] at M1 ⊢
  clear hq hE1 hE0 HM hbx

  cases fb with
  | false =>
    go_wp2_with fail
    refine (alive7_any _).mono ?_
    rintro e w2 ⟨rfl, hE2⟩
    go_wp2_with fail
    go_ret
    exact ⟨rfl, e1.out.trans hE2⟩
  | true =>
    go_wp2_with (refine ldMR (by rfl) _ rfl rfl M1.out ?_)
    refine (refRight7_any _ m _ M1.out.isMsg).mono ?_
    rintro e w2 ⟨rfl, hE2⟩
    have M2 := Lib.hid (M1.out.ext hE2)
    have e2 := Lib.hid (e1.out.trans hE2)
    clear hE2 M1
    cases hr : Msg.right m with
    | false =>
      clear hr
      go_wp2_with fail
      refine (alive7_any _).mono ?_
      rintro e w3 ⟨rfl, hE3⟩
      go_wp2_with fail
      go_ret
      exact ⟨rfl, e2.out.trans hE3⟩
    | true =>
      have hdl := dataLe hr
      clear hr
      cases h0 : ((RowKit.wrap64 (field.tmod 4 + 4)).tmod 4 == 0) with
      | true =>
        go_wp2_with (first
          | (refine ldMR (by rfl) _ rfl rfl M2.out ?_)
          | (refine allocMR (by rfl) rfl ?_; intro W4 q4 hat4 hE4 hq4)
          | (refine putMR (m2 := m) (r2 := rt) (e2 := et) (s2 := sv) (d2 := dv) (by rfl) _ _ rfl rfl rfl hat4.out I1.out I2.out I3.out I4.out ?_; intro W5 hat5 hB5; skip)
          | (refine putMR_is (n := true) (by rfl) _ _ rfl rfl rfl hat5.out ?_; intro W6 hat6 hB6; have hn4 := hq4.out; have E36 := Lib.hid (show Ext w2 W6 from Below.trans (B := w2.heap.size) (Below.trans (B := w2.heap.size) hE4.out (hB5.out.below (by omega) hE4.out.size)) (hB6.out.below (by omega) (Nat.le_trans hE4.out.size hB5.out.size))); have X6 := Lib.hid (show Msg7 35 W6 q4 ({ m with is := true } : Msg.M) rt et sv dv from ⟨hat6.out, M2.out.hr.below E36.out, M2.out.he.below E36.out, M2.out.hs.below E36.out, M2.out.hd.below E36.out⟩); clear hn4)
          | (refine ldMR (by rfl) _ rfl rfl X6.out ?_))
        have e6 := Lib.hid (e2.out.trans E36.out)
        clear hat4 hE4 hq4 hat5 hB5 hat6 hB6
        refine (own7_any _ ({ m with is := true } : Msg.M) _ X6.out.isMsg).mono ?_
        rintro e w7 ⟨u7, rfl, hu7, hE7⟩
        have HU7 := Lib.hid hu7
        clear hu7
        go_wp2_with fail
        obtain ⟨r2, hr2⟩ : ∃ r2, Msg.right ({ m with is := true } : Msg.M) = r2 := ⟨_, rfl⟩
        have HR2 := Lib.hid hr2
        refine (encode7_any u7 ({ m with is := true } : Msg.M) _ HU7.out).mono ?_
        unfold GivesEnc7
        rw [hr2]
        rintro e w8 ⟨u8, rfl, hb8, hE8⟩
        have X8 := Lib.hid ((X6.out.ext hE7).ext hE8)
        have e8 := Lib.hid ((e6.out.trans hE7).trans hE8)
        clear hb8 hE7 hE8 X6 hr2
        go_wp2_with fail
        refine (alive7_any _).mono ?_
        rintro e w9 ⟨rfl, hE9⟩
        have X9 := Lib.hid (X8.out.ext hE9)
        have e9 := Lib.hid (e8.out.trans hE9)
        clear hE9 X8
        cases r2 with
        | false =>
          go_wp2_with (refine ldMR (by rfl) _ rfl rfl X9.out ?_)
          refine (refRight7_any _ ({ m with is := true } : Msg.M) _ X9.out.isMsg).mono ?_
          rw [HR2.out]
          rintro e wv ⟨rfl, hEv⟩
          go_wp2_with fail
          go_ret
          exact ⟨rfl, e9.out.trans hEv⟩
        | true =>
          go_wp2_with (refine ldMR (by rfl) _ rfl rfl X9.out ?_)
          refine (refRight7_any _ ({ m with is := true } : Msg.M) _ X9.out.isMsg).mono ?_
          rw [HR2.out]
          rintro e wv ⟨rfl, hEv⟩
          go_wp2_with fail
          go_ret
          exact ⟨rfl, e9.out.trans hEv⟩
      | false =>
        cases h1 : ((RowKit.wrap64 (field.tmod 4 + 4)).tmod 4 == 1) with
        | true =>
          go_wp2_with (first
            | (refine ldMR (by rfl) _ rfl rfl M2.out ?_)
            | (refine allocMR (by rfl) rfl ?_; intro W4 q4 hat4 hE4 hq4)
            | (refine putMR (m2 := m) (r2 := rt) (e2 := et) (s2 := sv) (d2 := dv) (by rfl) _ _ rfl rfl rfl hat4.out I1.out I2.out I3.out I4.out ?_; intro W5 hat5 hB5; skip)
            | (refine putMR_old (n := 1) (by rfl) _ _ rfl rfl rfl hat5.out ?_; intro W6 hat6 hB6; have hn4 := hq4.out; have E36 := Lib.hid (show Ext w2 W6 from Below.trans (B := w2.heap.size) (Below.trans (B := w2.heap.size) hE4.out (hB5.out.below (by omega) hE4.out.size)) (hB6.out.below (by omega) (Nat.le_trans hE4.out.size hB5.out.size))); have X6 := Lib.hid (show Msg7 35 W6 q4 ({ m with old := 1 } : Msg.M) rt et sv dv from ⟨hat6.out, M2.out.hr.below E36.out, M2.out.he.below E36.out, M2.out.hs.below E36.out, M2.out.hd.below E36.out⟩); clear hn4)
            | (refine ldMR (by rfl) _ rfl rfl X6.out ?_))
          have e6 := Lib.hid (e2.out.trans E36.out)
          clear hat4 hE4 hq4 hat5 hB5 hat6 hB6
          refine (own7_any _ ({ m with old := 1 } : Msg.M) _ X6.out.isMsg).mono ?_
          rintro e w7 ⟨u7, rfl, hu7, hE7⟩
          have HU7 := Lib.hid hu7
          clear hu7
          go_wp2_with fail
          obtain ⟨r2, hr2⟩ : ∃ r2, Msg.right ({ m with old := 1 } : Msg.M) = r2 := ⟨_, rfl⟩
          have HR2 := Lib.hid hr2
          refine (encode7_any u7 ({ m with old := 1 } : Msg.M) _ HU7.out).mono ?_
          unfold GivesEnc7
          rw [hr2]
          rintro e w8 ⟨u8, rfl, hb8, hE8⟩
          have X8 := Lib.hid ((X6.out.ext hE7).ext hE8)
          have e8 := Lib.hid ((e6.out.trans hE7).trans hE8)
          clear hb8 hE7 hE8 X6 hr2
          go_wp2_with fail
          refine (alive7_any _).mono ?_
          rintro e w9 ⟨rfl, hE9⟩
          have X9 := Lib.hid (X8.out.ext hE9)
          have e9 := Lib.hid (e8.out.trans hE9)
          clear hE9 X8
          cases r2 with
          | false =>
            go_wp2_with (refine ldMR (by rfl) _ rfl rfl X9.out ?_)
            refine (refRight7_any _ ({ m with old := 1 } : Msg.M) _ X9.out.isMsg).mono ?_
            rw [HR2.out]
            rintro e wv ⟨rfl, hEv⟩
            go_wp2_with fail
            go_ret
            exact ⟨rfl, e9.out.trans hEv⟩
          | true =>
            go_wp2_with (refine ldMR (by rfl) _ rfl rfl X9.out ?_)
            refine (refRight7_any _ ({ m with old := 1 } : Msg.M) _ X9.out.isMsg).mono ?_
            rw [HR2.out]
            rintro e wv ⟨rfl, hEv⟩
            go_wp2_with fail
            go_ret
            exact ⟨rfl, e9.out.trans hEv⟩
        | false =>
          cases h2 : ((RowKit.wrap64 (field.tmod 4 + 4)).tmod 4 == 2) with
          | true =>
            go_wp2_with (first
              | (refine ldMR (by rfl) _ rfl rfl M2.out ?_)
              | (refine allocMR (by rfl) rfl ?_; intro W4 q4 hat4 hE4 hq4)
              | (refine putMR (m2 := m) (r2 := rt) (e2 := et) (s2 := sv) (d2 := dv) (by rfl) _ _ rfl rfl rfl hat4.out I1.out I2.out I3.out I4.out ?_; intro W5 hat5 hB5; have cd := cell_of_heap hat5.out 10; simp [msgCells] at cd; have hadd := mk_append m.reco.data [120]; have hsd := str_len m.reco.data; have hsx : (ByteArray.mk #[(120 : UInt8)]).size = 1 := rfl)
              | (refine putMR_data (n := m.reco.data ++ [120]) (by rfl) _ _ rfl rfl rfl hat5.out ?_; intro W6 hat6 hB6; have hn4 := hq4.out; have E36 := Lib.hid (show Ext w2 W6 from Below.trans (B := w2.heap.size) (Below.trans (B := w2.heap.size) hE4.out (hB5.out.below (by omega) hE4.out.size)) (hB6.out.below (by omega) (Nat.le_trans hE4.out.size hB5.out.size))); have X6 := Lib.hid (show Msg7 35 W6 q4 ({ m with reco := { m.reco with data := m.reco.data ++ [120] } } : Msg.M) rt et sv dv from ⟨hat6.out, M2.out.hr.below E36.out, M2.out.he.below E36.out, M2.out.hs.below E36.out, M2.out.hd.below E36.out⟩); clear hn4)
              | (refine ldMR (by rfl) _ rfl rfl X6.out ?_))
            have e6 := Lib.hid (e2.out.trans E36.out)
            clear hat4 hE4 hq4 hat5 hB5 hat6 hB6
            refine (own7_any _ ({ m with reco := { m.reco with data := m.reco.data ++ [120] } } : Msg.M) _ X6.out.isMsg).mono ?_
            rintro e w7 ⟨u7, rfl, hu7, hE7⟩
            have HU7 := Lib.hid hu7
            clear hu7
            go_wp2_with fail
            obtain ⟨r2, hr2⟩ : ∃ r2, Msg.right ({ m with reco := { m.reco with data := m.reco.data ++ [120] } } : Msg.M) = r2 := ⟨_, rfl⟩
            have HR2 := Lib.hid hr2
            refine (encode7_any u7 ({ m with reco := { m.reco with data := m.reco.data ++ [120] } } : Msg.M) _ HU7.out).mono ?_
            unfold GivesEnc7
            rw [hr2]
            rintro e w8 ⟨u8, rfl, hb8, hE8⟩
            have X8 := Lib.hid ((X6.out.ext hE7).ext hE8)
            have e8 := Lib.hid ((e6.out.trans hE7).trans hE8)
            clear hb8 hE7 hE8 X6 hr2
            go_wp2_with fail
            refine (alive7_any _).mono ?_
            rintro e w9 ⟨rfl, hE9⟩
            have X9 := Lib.hid (X8.out.ext hE9)
            have e9 := Lib.hid (e8.out.trans hE9)
            clear hE9 X8
            cases r2 with
            | false =>
              go_wp2_with (refine ldMR (by rfl) _ rfl rfl X9.out ?_)
              refine (refRight7_any _ ({ m with reco := { m.reco with data := m.reco.data ++ [120] } } : Msg.M) _ X9.out.isMsg).mono ?_
              rw [HR2.out]
              rintro e wv ⟨rfl, hEv⟩
              go_wp2_with fail
              go_ret
              exact ⟨rfl, e9.out.trans hEv⟩
            | true =>
              go_wp2_with (refine ldMR (by rfl) _ rfl rfl X9.out ?_)
              refine (refRight7_any _ ({ m with reco := { m.reco with data := m.reco.data ++ [120] } } : Msg.M) _ X9.out.isMsg).mono ?_
              rw [HR2.out]
              rintro e wv ⟨rfl, hEv⟩
              go_wp2_with fail
              go_ret
              exact ⟨rfl, e9.out.trans hEv⟩
          | false =>
            cases h3 : ((RowKit.wrap64 (field.tmod 4 + 4)).tmod 4 == 3) with
            | true =>
              go_wp2_with (first
                | (refine ldMR (by rfl) _ rfl rfl M2.out ?_)
                | (refine allocMR (by rfl) rfl ?_; intro W4 q4 hat4 hE4 hq4)
                | (refine putMR (m2 := m) (r2 := rt) (e2 := et) (s2 := sv) (d2 := dv) (by rfl) _ _ rfl rfl rfl hat4.out I1.out I2.out I3.out I4.out ?_; intro W5 hat5 hB5; have cd := cell_of_heap hat5.out 11; simp [msgCells] at cd)
                | (refine putMR_entn (n := RowKit.wrap64 (m.ent.number + 1)) (by rfl) _ _ rfl rfl rfl hat5.out ?_; intro W6 hat6 hB6; have hn4 := hq4.out; have E36 := Lib.hid (show Ext w2 W6 from Below.trans (B := w2.heap.size) (Below.trans (B := w2.heap.size) hE4.out (hB5.out.below (by omega) hE4.out.size)) (hB6.out.below (by omega) (Nat.le_trans hE4.out.size hB5.out.size))); have X6 := Lib.hid (show Msg7 35 W6 q4 ({ m with ent := { m.ent with number := RowKit.wrap64 (m.ent.number + 1) } } : Msg.M) rt et sv dv from ⟨hat6.out, M2.out.hr.below E36.out, M2.out.he.below E36.out, M2.out.hs.below E36.out, M2.out.hd.below E36.out⟩); clear hn4)
                | (refine ldMR (by rfl) _ rfl rfl X6.out ?_))
              have e6 := Lib.hid (e2.out.trans E36.out)
              clear hat4 hE4 hq4 hat5 hB5 hat6 hB6
              refine (own7_any _ ({ m with ent := { m.ent with number := RowKit.wrap64 (m.ent.number + 1) } } : Msg.M) _ X6.out.isMsg).mono ?_
              rintro e w7 ⟨u7, rfl, hu7, hE7⟩
              have HU7 := Lib.hid hu7
              clear hu7
              go_wp2_with fail
              obtain ⟨r2, hr2⟩ : ∃ r2, Msg.right ({ m with ent := { m.ent with number := RowKit.wrap64 (m.ent.number + 1) } } : Msg.M) = r2 := ⟨_, rfl⟩
              have HR2 := Lib.hid hr2
              refine (encode7_any u7 ({ m with ent := { m.ent with number := RowKit.wrap64 (m.ent.number + 1) } } : Msg.M) _ HU7.out).mono ?_
              unfold GivesEnc7
              rw [hr2]
              rintro e w8 ⟨u8, rfl, hb8, hE8⟩
              have X8 := Lib.hid ((X6.out.ext hE7).ext hE8)
              have e8 := Lib.hid ((e6.out.trans hE7).trans hE8)
              clear hb8 hE7 hE8 X6 hr2
              go_wp2_with fail
              refine (alive7_any _).mono ?_
              rintro e w9 ⟨rfl, hE9⟩
              have X9 := Lib.hid (X8.out.ext hE9)
              have e9 := Lib.hid (e8.out.trans hE9)
              clear hE9 X8
              cases r2 with
              | false =>
                go_wp2_with (refine ldMR (by rfl) _ rfl rfl X9.out ?_)
                refine (refRight7_any _ ({ m with ent := { m.ent with number := RowKit.wrap64 (m.ent.number + 1) } } : Msg.M) _ X9.out.isMsg).mono ?_
                rw [HR2.out]
                rintro e wv ⟨rfl, hEv⟩
                go_wp2_with fail
                go_ret
                exact ⟨rfl, e9.out.trans hEv⟩
              | true =>
                go_wp2_with (refine ldMR (by rfl) _ rfl rfl X9.out ?_)
                refine (refRight7_any _ ({ m with ent := { m.ent with number := RowKit.wrap64 (m.ent.number + 1) } } : Msg.M) _ X9.out.isMsg).mono ?_
                rw [HR2.out]
                rintro e wv ⟨rfl, hEv⟩
                go_wp2_with fail
                go_ret
                exact ⟨rfl, e9.out.trans hEv⟩
            | false =>
              go_wp2_with (first
                | (refine ldMR (by rfl) _ rfl rfl M2.out ?_)
                | (refine allocMR (by rfl) rfl ?_; intro W4 q4 hat4 hE4 hq4)
                | (refine putMR (m2 := m) (r2 := rt) (e2 := et) (s2 := sv) (d2 := dv) (by rfl) _ _ rfl rfl rfl hat4.out I1.out I2.out I3.out I4.out ?_; intro W5 hat5 hB5; have hn4 := hq4.out; have E36 := Lib.hid (show Ext w2 W5 from Below.trans (B := w2.heap.size) hE4.out (hB5.out.below (by omega) hE4.out.size)); have X6 := Lib.hid (show Msg7 35 W5 q4 m rt et sv dv from ⟨hat5.out, M2.out.hr.below E36.out, M2.out.he.below E36.out, M2.out.hs.below E36.out, M2.out.hd.below E36.out⟩); clear hn4)
                | (refine ldMR (by rfl) _ rfl rfl X6.out ?_))
              have e6 := Lib.hid (e2.out.trans E36.out)
              clear hat4 hE4 hq4 hat5 hB5 
              refine (own7_any _ m _ X6.out.isMsg).mono ?_
              rintro e w7 ⟨u7, rfl, hu7, hE7⟩
              have HU7 := Lib.hid hu7
              clear hu7
              go_wp2_with fail
              obtain ⟨r2, hr2⟩ : ∃ r2, Msg.right m = r2 := ⟨_, rfl⟩
              have HR2 := Lib.hid hr2
              refine (encode7_any u7 m _ HU7.out).mono ?_
              unfold GivesEnc7
              rw [hr2]
              rintro e w8 ⟨u8, rfl, hb8, hE8⟩
              have X8 := Lib.hid ((X6.out.ext hE7).ext hE8)
              have e8 := Lib.hid ((e6.out.trans hE7).trans hE8)
              clear hb8 hE7 hE8 X6 hr2
              go_wp2_with fail
              refine (alive7_any _).mono ?_
              rintro e w9 ⟨rfl, hE9⟩
              have X9 := Lib.hid (X8.out.ext hE9)
              have e9 := Lib.hid (e8.out.trans hE9)
              clear hE9 X8
              cases r2 with
              | false =>
                go_wp2_with (refine ldMR (by rfl) _ rfl rfl X9.out ?_)
                refine (refRight7_any _ m _ X9.out.isMsg).mono ?_
                rw [HR2.out]
                rintro e wv ⟨rfl, hEv⟩
                go_wp2_with fail
                go_ret
                exact ⟨rfl, e9.out.trans hEv⟩
              | true =>
                go_wp2_with (refine ldMR (by rfl) _ rfl rfl X9.out ?_)
                refine (refRight7_any _ m _ X9.out.isMsg).mono ?_
                rw [HR2.out]
                rintro e wv ⟨rfl, hEv⟩
                go_wp2_with fail
                go_ret
                exact ⟨rfl, e9.out.trans hEv⟩

namespace messageKinds
theorem own : ownKnob Tryz.prog.godebug = none := by kernel_rfl
theorem laidOut : laidOutB Tryz.prog = true := by kernel_rfl
set_option linter.unusedVariables false in
set_option maxRecDepth 100000 in
theorem lifted (os : Os) (started : os.Started) (H : Type) (enc : TypeId × Value → H) :
    ReturnsInHanded {} Tryz.checked os 7 .any (Rows.messageKindsSpec.pre6 enc Tryz.prog Tryz.f7 Rows.messageKindsRow.domain false) (Rows.messageKindsSpec.post enc Tryz.prog Tryz.f7 false true false false) := by
  refine returnsInHanded_of_change_sized (C := Tryz.checked) own started (by kernel_rfl) Tryz.func7
    (ChangeSpec.witness6 (enc := enc) (C := Tryz.checked) false ⟨#[], #[.agg #[.int .i64 0, .int .i64 0, .int .i64 0, .int .i64 0, .int .i64 0, .int .i64 0, .bool false, .int .i64 0, .int .i64 0, .slice none 0 0, .string ByteArray.empty, .int .i64 0, .int .i64 0, .slice none 0 0, .int .i64 0, .int .i64 0, .int .i64 0, .int .i64 0, .int .i64 0, .int .i64 0, .slice none 0 0, .slice none 0 0], .int .i64 0], []⟩ 8 (by kernel_rfl) (by kernel_rfl) (by kernel_rfl) (by kernel_rfl)) ?_
  intro W base args ds gs before hval0 hW hcnd hsz _
  have hval : ∀ (j : Nat) t v, Tryz.f7.params[j]? = some t → args[j]? = some v → Value.okWide Tryz.prog W .any base t v := hval0
  have hW' := hW
  obtain ⟨p, q, hA0, hV, rfl, hfz, hnd⟩ := hW'
  have hA : DataW.TrodAll enc Tryz.prog W 0 (fun _ => true) true Tryz.f7.params.toList args.toList ds p := hA0
  rw [Tryz.params7] at hA hval
  obtain ⟨v0, vs0, d0, ds0, p0, q0, hargs, rfl, rfl, h0, r0⟩ := trodAll_cons hA
  obtain ⟨v1, vs1, d1, ds1, p1, q1, rfl, rfl, rfl, h1, r1⟩ := trodAll_cons r0
  obtain ⟨rfl, rfl, rfl⟩ := trodAll_nil r1
  obtain rfl : args = #[v0, v1] := by cases args; simp_all
  obtain ⟨rfl, rfl⟩ := trodVars_none hV
  have k0 := h0
  have lt0 : ∀ x ∈ p0, x.block < W.heap.size := by obtain ⟨m, hm⟩ := k0; exact DataW.trod_lt m _ _ _ hm
  obtain ⟨l0, w0⟩ := msg_arg (hval 0 35 v0 rfl rfl) h0
  have k1 := h1
  have lt1 : ∀ x ∈ p1, x.block < W.heap.size := by obtain ⟨m, hm⟩ := k1; exact DataW.trod_lt m _ _ _ hm
  obtain ⟨a1, rfl, _, _, w1⟩ := open_int Tryz.underlying3 (hval 1 3 v1 rfl rfl) h1
  clear hA0 hval0
  refine (messageKinds_walk _ l0 _ W w0).mono fun e W' ⟨he, bel⟩ => ?_
  subst he
  exact ⟨_, rfl, _, _, _, [], _, [], hW, trodAll_mk1 (shut_bool Tryz.underlying4 _), (trodAll_cons_mk (Below.trod laidOut (by kernel_rfl) (of_decide_eq_true (by kernel_rfl)) k0 bel lt0) (trodAll_cons_mk (Below.trod laidOut (by kernel_rfl) (of_decide_eq_true (by kernel_rfl)) k1 bel lt1) trodAll_mk0)), rfl, bel.frame _, fun h => by cases h⟩
theorem over : Rows.messageKindsRow.holds Tryz.pinned (OpenSpec.ofChange Rows.messageKindsSpec) :=
  OpenClaim.holds_of_wide 7 Tryz.f7 rfl rfl rfl rfl rfl rfl rfl ⟨rfl, rfl, rfl, rfl, rfl⟩ rfl rfl rfl rfl rfl (by kernel_rfl) Tryz.func7 (by kernel_rfl)
    (of_decide_eq_true (by kernel_rfl)) (by unfold Func.isWrapper; first | (rw [if_pos (by decide +kernel)]; kernel_rfl) | (rw [if_neg (by decide +kernel)]; exact ⟨rfl, rfl⟩))
    (fun os started H enc _ => lifted os started H enc)
theorem proved : Rows.MessageKindsSaid := over
end messageKinds
end Go.Proofs.YtoihkcoleofmnaaGreat
