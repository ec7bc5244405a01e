/-
 Merged: Layer 7: what the program's way of reading makes of a text is what the document's makes.
-/
import Derived.Test.YtldfpklgbedgjaaGreatBrEnt
import Derived.Test.YtldfpklgbedgjaaGreatMsgK
import Derived.Test.YtldfpklgbedgjaaGreatMsgP
namespace Go.Proofs.YtldfpklgbedgjaaGreat
set_option linter.unusedSimpArgs false
set_option linter.unusedVariables false
set_option maxRecDepth 100000
open Go.RowKit
def bds7 : Msg.By.Bds := ⟨10, 15, 15, 64, 7, 1099511627776, 1099511627776, 1099511627776, fun _ => 65536⟩
theorem bds7_ok : bds7.Ok :=
 ⟨by decide, by decide, by decide, by decide, by decide, by decide, by decide, by decide, fun r h => by have := Rec.enc_le h; show _ ≤ (65536 : Int); omega, fun r h => by have := Ent.enc_le h; show _ ≤ (65536 : Int); omega, fun r h => by have := Term.enc_le h; show _ ≤ (65536 : Int); omega, fun r h => by have := Term.enc_le h; show _ ≤ (65536 : Int); omega⟩
def head7 (t : List UInt8) : St7 := ⟨⟨(Msg.By.k bds7 t : Nat), ((Msg.By.stS bds7 t).2 : Nat), ((Msg.By.stD bds7 t).2 : Nat), ((Msg.By.stT bds7 t).2 : Nat), 0, 0, false, Msg.rec0, Msg.ent0, 0, 0, Msg.conf0⟩, 0, (Msg.By.stT bds7 t).1⟩
def fin7 (t : List UInt8) : St7 := rdAll (head7 t)
theorem dec4_yes {l : List UInt8} {r : Rec.R} (h : Rec.dec l = some r) : decErr4 (Crc.cutOf l) = 0 ∧ decRec4 (Crc.cutOf l) = r := by
 unfold Rec.dec at h
 split at h
 · cases h
 · rename_i t hc
   split at h
   · rename_i hk
     injection h with h
     rw [hc, decErr4_some, decRec4_some, hk, ← h]
     exact ⟨rfl, rfl⟩
   · cases h
theorem dec4_no {l : List UInt8} (h : Rec.dec l = none) : (decErr4 (Crc.cutOf l) == 0) = false := by
 unfold Rec.dec at h
 split at h
 · rename_i hc
   rw [hc]
   rfl
 · rename_i t hc
   split at h
   · cases h
   · rename_i hk
     rw [hc, decErr4_some, show Rec.readOk t = false by simpa using hk]
     rfl
theorem dec5_yes {vd : List UInt8 → List Int} {l : List UInt8} {e : Ent.E} (h : Ent.dec vd l = some e) : Ent.errOf (Crc.cutOf l) (Ent.dec vd l) = 0 := by
 rw [h]
 unfold Ent.dec at h
 split at h
 · cases h
 · rename_i t hc
   rw [hc]
   rfl
theorem dec5_no {vd : List UInt8 → List Int} {l : List UInt8} (h : Ent.dec vd l = none) : (Ent.errOf (Crc.cutOf l) (Ent.dec vd l) == 0) = false := by
 rw [h]
 cases Crc.cutOf l <;> rfl
theorem step_t {x : St7} {f c : Int} {g : St7 → St7} (h : mask x.m = c) (hb : hasBit c f = true) : stepIf f g x = g x := by unfold stepIf; rw [h, hb]; rfl
theorem step_f {x : St7} {f c : Int} {g : St7 → St7} (h : mask x.m = c) (hb : hasBit c f = false) : stepIf f g x = x := by unfold stepIf; rw [h, hb]; rfl
set_option maxHeartbeats 8000000 in
theorem fin7_1 {t : List UInt8} (hk : Msg.By.k bds7 t = 1) : ((fin7 t).err == 0 && ((fin7 t).s.done == 0 && Msg.right (fin7 t).m)) = Msg.By.ok bds7 Ent.vd t ∧ ((fin7 t).err = 0 → (fin7 t).m = Msg.By.read bds7 Ent.vd t) := by
 unfold Msg.By.ok
 have hkk : ((Msg.By.k bds7 t : Nat) : Int) = 1 := by rw [hk]; rfl
 have e1 : Msg.By.stShard bds7 t = (Msg.By.stT bds7 t).1.num 7 := by unfold Msg.By.stShard Msg.By.optNum; rw [decide_eq_true (by omega)]; rfl
 have e2 : Msg.By.stNumber bds7 t = (Msg.By.stShard bds7 t).1.num 1099511627776 := by unfold Msg.By.stNumber Msg.By.optNum; rw [decide_eq_true (by omega)]; rfl
 have e3 : Msg.By.stBallot bds7 t = ((Msg.By.stNumber bds7 t).1, 0) := by unfold Msg.By.stBallot Msg.By.optNum; rw [decide_eq_false (by omega)]; rfl
 have e4 : Msg.By.stOld bds7 t = ((Msg.By.stBallot bds7 t).1, 0) := by unfold Msg.By.stOld Msg.By.optNum; rw [decide_eq_false (by omega)]; rfl
 have e5 : Msg.By.stIs bds7 t = ((Msg.By.stOld bds7 t).1, false) := by unfold Msg.By.stIs Msg.optBool; rw [decide_eq_false (by omega)]; rfl
 have e6 : Msg.By.stText bds7 t = (Msg.By.stIs bds7 t).1.text 65536 := by unfold Msg.By.stText Msg.By.optText; rw [decide_eq_true (by omega)]; rfl
 have hf : fin7 t = rdReco (rdNumber (rdShard (head7 t))) := by
  unfold fin7 rdAll
  rw [step_t (x := head7 t) (f := 1) (g := rdShard) (mask_one (m := (head7 t).m) hkk) (by decide),
  step_t (x := rdShard (head7 t)) (f := 2) (g := rdNumber) (mask_one (m := (rdShard (head7 t)).m) hkk) (by decide),
  step_f (x := rdNumber (rdShard (head7 t))) (f := 4) (g := rdEnt) (mask_one (m := (rdNumber (rdShard (head7 t))).m) hkk) (by decide),
  step_f (x := rdNumber (rdShard (head7 t))) (f := 8) (g := rdBallot) (mask_one (m := (rdNumber (rdShard (head7 t))).m) hkk) (by decide),
  step_f (x := rdNumber (rdShard (head7 t))) (f := 16) (g := rdOld) (mask_one (m := (rdNumber (rdShard (head7 t))).m) hkk) (by decide),
  step_f (x := rdNumber (rdShard (head7 t))) (f := 32) (g := rdIs) (mask_one (m := (rdNumber (rdShard (head7 t))).m) hkk) (by decide),
  step_t (x := rdNumber (rdShard (head7 t))) (f := 64) (g := rdReco) (mask_one (m := (rdNumber (rdShard (head7 t))).m) hkk) (by decide),
  step_f (x := rdReco (rdNumber (rdShard (head7 t)))) (f := 128) (g := rdConf) (mask_one (m := (rdReco (rdNumber (rdShard (head7 t)))).m) hkk) (by decide)]
 have hs : (fin7 t).s = (Msg.By.stText bds7 t).1 := by rw [hf, e6, e5, e4, e3, e2, e1]; simp only [rdShard, rdNumber, rdEnt, rdBallot, rdOld, rdIs, rdReco, rdConf, head7] <;> rfl
 have hT : (Msg.By.stText bds7 t).2 = ((Msg.By.stIs bds7 t).1.text 65536).2 := by rw [e6]
 cases hd : Rec.dec (Msg.By.stText bds7 t).2 with
 | some r =>
  obtain ⟨d1, d2⟩ := dec4_yes hd
  have he : (fin7 t).err = 0 := by rw [hf, ← d1, e6, e5, e4, e3, e2, e1]; simp only [rdShard, rdNumber, rdEnt, rdBallot, rdOld, rdIs, rdReco, rdConf, head7] <;> rfl
  have hm : (fin7 t).m = Msg.By.read bds7 Ent.vd t := by
   unfold Msg.By.read Msg.By.recOf Msg.By.entOf Msg.By.confOf
   rw [if_pos hk, if_neg (by omega), if_neg (by omega), hd, show (some r).getD Msg.rec0 = r from rfl, ← d2, hf, e6, e5, e4, e3, e2, e1]
   simp only [rdShard, rdNumber, rdEnt, rdBallot, rdOld, rdIs, rdReco, rdConf, head7] <;> rfl
  have hg : Msg.By.recGot bds7 t = true := by unfold Msg.By.recGot; rw [hd]; simp
  exact ⟨by rw [he, hs, hm, hg]; rfl, fun _ => hm⟩
 | none =>
  have d1 := dec4_no hd
  have he : ((fin7 t).err == 0) = false := by rw [hf, ← d1, e6, e5, e4, e3, e2, e1]; simp only [rdShard, rdNumber, rdEnt, rdBallot, rdOld, rdIs, rdReco, rdConf, head7] <;> rfl
  have hg : Msg.By.recGot bds7 t = false := by unfold Msg.By.recGot; rw [hd, decide_eq_true hk]; rfl
  exact ⟨by rw [he, hg]; simp, fun h => by rw [h] at he; cases he⟩
set_option maxHeartbeats 8000000 in
theorem fin7_2 {t : List UInt8} (hk : Msg.By.k bds7 t = 2) : ((fin7 t).err == 0 && ((fin7 t).s.done == 0 && Msg.right (fin7 t).m)) = Msg.By.ok bds7 Ent.vd t ∧ ((fin7 t).err = 0 → (fin7 t).m = Msg.By.read bds7 Ent.vd t) := by
 unfold Msg.By.ok
 have hkk : ((Msg.By.k bds7 t : Nat) : Int) = 2 := by rw [hk]; rfl
 have e1 : Msg.By.stShard bds7 t = (Msg.By.stT bds7 t).1.num 7 := by unfold Msg.By.stShard Msg.By.optNum; rw [decide_eq_true (by omega)]; rfl
 have e2 : Msg.By.stNumber bds7 t = (Msg.By.stShard bds7 t).1.num 1099511627776 := by unfold Msg.By.stNumber Msg.By.optNum; rw [decide_eq_true (by omega)]; rfl
 have e3 : Msg.By.stBallot bds7 t = ((Msg.By.stNumber bds7 t).1, 0) := by unfold Msg.By.stBallot Msg.By.optNum; rw [decide_eq_false (by omega)]; rfl
 have e4 : Msg.By.stOld bds7 t = ((Msg.By.stBallot bds7 t).1, 0) := by unfold Msg.By.stOld Msg.By.optNum; rw [decide_eq_false (by omega)]; rfl
 have e5 : Msg.By.stIs bds7 t = ((Msg.By.stOld bds7 t).1, false) := by unfold Msg.By.stIs Msg.optBool; rw [decide_eq_false (by omega)]; rfl
 have e6 : Msg.By.stText bds7 t = ((Msg.By.stIs bds7 t).1, []) := by unfold Msg.By.stText Msg.By.optText; rw [decide_eq_false (by omega)]; rfl
 have hf : fin7 t = rdNumber (rdShard (head7 t)) := by
  unfold fin7 rdAll
  rw [step_t (x := head7 t) (f := 1) (g := rdShard) (mask_two (m := (head7 t).m) hkk) (by decide),
  step_t (x := rdShard (head7 t)) (f := 2) (g := rdNumber) (mask_two (m := (rdShard (head7 t)).m) hkk) (by decide),
  step_f (x := rdNumber (rdShard (head7 t))) (f := 4) (g := rdEnt) (mask_two (m := (rdNumber (rdShard (head7 t))).m) hkk) (by decide),
  step_f (x := rdNumber (rdShard (head7 t))) (f := 8) (g := rdBallot) (mask_two (m := (rdNumber (rdShard (head7 t))).m) hkk) (by decide),
  step_f (x := rdNumber (rdShard (head7 t))) (f := 16) (g := rdOld) (mask_two (m := (rdNumber (rdShard (head7 t))).m) hkk) (by decide),
  step_f (x := rdNumber (rdShard (head7 t))) (f := 32) (g := rdIs) (mask_two (m := (rdNumber (rdShard (head7 t))).m) hkk) (by decide),
  step_f (x := rdNumber (rdShard (head7 t))) (f := 64) (g := rdReco) (mask_two (m := (rdNumber (rdShard (head7 t))).m) hkk) (by decide),
  step_f (x := rdNumber (rdShard (head7 t))) (f := 128) (g := rdConf) (mask_two (m := (rdNumber (rdShard (head7 t))).m) hkk) (by decide)]
 have hs : (fin7 t).s = (Msg.By.stText bds7 t).1 := by rw [hf, e6, e5, e4, e3, e2, e1]; simp only [rdShard, rdNumber, rdEnt, rdBallot, rdOld, rdIs, rdReco, rdConf, head7] <;> rfl
 have he : (fin7 t).err = 0 := by rw [hf]; simp only [rdShard, rdNumber, rdEnt, rdBallot, rdOld, rdIs, rdReco, rdConf, head7] <;> rfl
 have hm : (fin7 t).m = Msg.By.read bds7 Ent.vd t := by
  rw [hf]
  unfold Msg.By.read Msg.By.recOf Msg.By.entOf Msg.By.confOf
  rw [if_neg (by omega), if_neg (by omega), if_neg (by omega), e5, e4, e3, e2, e1]
  simp only [rdShard, rdNumber, rdEnt, rdBallot, rdOld, rdIs, rdReco, rdConf, head7] <;> rfl
 have hg : Msg.By.recGot bds7 t = true := by unfold Msg.By.recGot; rw [decide_eq_false (by omega)]; rfl
 exact ⟨by rw [he, hs, hm, hg]; rfl, fun _ => hm⟩
set_option maxHeartbeats 8000000 in
theorem fin7_3 {t : List UInt8} (hk : Msg.By.k bds7 t = 3) : ((fin7 t).err == 0 && ((fin7 t).s.done == 0 && Msg.right (fin7 t).m)) = Msg.By.ok bds7 Ent.vd t ∧ ((fin7 t).err = 0 → (fin7 t).m = Msg.By.read bds7 Ent.vd t) := by
 unfold Msg.By.ok
 have hkk : ((Msg.By.k bds7 t : Nat) : Int) = 3 := by rw [hk]; rfl
 have e1 : Msg.By.stShard bds7 t = ((Msg.By.stT bds7 t).1, 0) := by unfold Msg.By.stShard Msg.By.optNum; rw [decide_eq_false (by omega)]; rfl
 have e2 : Msg.By.stNumber bds7 t = ((Msg.By.stShard bds7 t).1, 0) := by unfold Msg.By.stNumber Msg.By.optNum; rw [decide_eq_false (by omega)]; rfl
 have e3 : Msg.By.stBallot bds7 t = ((Msg.By.stNumber bds7 t).1, 0) := by unfold Msg.By.stBallot Msg.By.optNum; rw [decide_eq_false (by omega)]; rfl
 have e4 : Msg.By.stOld bds7 t = ((Msg.By.stBallot bds7 t).1, 0) := by unfold Msg.By.stOld Msg.By.optNum; rw [decide_eq_false (by omega)]; rfl
 have e5 : Msg.By.stIs bds7 t = ((Msg.By.stOld bds7 t).1, false) := by unfold Msg.By.stIs Msg.optBool; rw [decide_eq_false (by omega)]; rfl
 have e6 : Msg.By.stText bds7 t = (Msg.By.stIs bds7 t).1.text 65536 := by unfold Msg.By.stText Msg.By.optText; rw [decide_eq_true (by omega)]; rfl
 have hf : fin7 t = rdEnt (head7 t) := by
  unfold fin7 rdAll
  rw [step_f (x := head7 t) (f := 1) (g := rdShard) (mask_three (m := (head7 t).m) hkk) (by decide),
  step_f (x := head7 t) (f := 2) (g := rdNumber) (mask_three (m := (head7 t).m) hkk) (by decide),
  step_t (x := head7 t) (f := 4) (g := rdEnt) (mask_three (m := (head7 t).m) hkk) (by decide),
  step_f (x := rdEnt (head7 t)) (f := 8) (g := rdBallot) (mask_three (m := (rdEnt (head7 t)).m) hkk) (by decide),
  step_f (x := rdEnt (head7 t)) (f := 16) (g := rdOld) (mask_three (m := (rdEnt (head7 t)).m) hkk) (by decide),
  step_f (x := rdEnt (head7 t)) (f := 32) (g := rdIs) (mask_three (m := (rdEnt (head7 t)).m) hkk) (by decide),
  step_f (x := rdEnt (head7 t)) (f := 64) (g := rdReco) (mask_three (m := (rdEnt (head7 t)).m) hkk) (by decide),
  step_f (x := rdEnt (head7 t)) (f := 128) (g := rdConf) (mask_three (m := (rdEnt (head7 t)).m) hkk) (by decide)]
 have hs : (fin7 t).s = (Msg.By.stText bds7 t).1 := by rw [hf, e6, e5, e4, e3, e2, e1]; simp only [rdShard, rdNumber, rdEnt, rdBallot, rdOld, rdIs, rdReco, rdConf, head7] <;> rfl
 have hg : Msg.By.recGot bds7 t = true := by unfold Msg.By.recGot; rw [decide_eq_false (by omega)]; rfl
 cases hd : Ent.dec Ent.vd (Msg.By.stText bds7 t).2 with
 | some r =>
  have d1 := dec5_yes hd
  have he : (fin7 t).err = 0 := by rw [hf, ← d1, e6, e5, e4, e3, e2, e1]; simp only [rdShard, rdNumber, rdEnt, rdBallot, rdOld, rdIs, rdReco, rdConf, head7] <;> rfl
  have hx : Ent.entOf (Ent.dec Ent.vd (Msg.By.stText bds7 t).2) = r := by rw [hd]; rfl
  have hm : (fin7 t).m = Msg.By.read bds7 Ent.vd t := by
   unfold Msg.By.read Msg.By.recOf Msg.By.entOf Msg.By.confOf
   rw [if_neg (by omega), if_pos hk, if_neg (by omega), hd, show (some r).getD Msg.ent0 = r from rfl, ← hx, hf, e6, e5, e4, e3, e2, e1]
   simp only [rdShard, rdNumber, rdEnt, rdBallot, rdOld, rdIs, rdReco, rdConf, head7] <;> rfl
  exact ⟨by rw [he, hs, hm, hg]; rfl, fun _ => hm⟩
 | none =>
  have d1 := dec5_no hd
  have he : ((fin7 t).err == 0) = false := by rw [hf, ← d1, e6, e5, e4, e3, e2, e1]; simp only [rdShard, rdNumber, rdEnt, rdBallot, rdOld, rdIs, rdReco, rdConf, head7] <;> rfl
  have hn : Msg.right (Msg.By.read bds7 Ent.vd t) = false := by
   cases h : Msg.right (Msg.By.read bds7 Ent.vd t) with
   | false => rfl
   | true =>
    exfalso
    obtain ⟨_, hi⟩ := Msg.right_is h
    have hK : (Msg.By.read bds7 Ent.vd t).kind = (Msg.By.k bds7 t : Int) := rfl
    have hZ : (Msg.By.read bds7 Ent.vd t).ent = Msg.ent0 := by show Msg.By.entOf bds7 Ent.vd t = _; unfold Msg.By.entOf; rw [if_pos hk, hd]; rfl
    cases hi with
    | three k1 b o i s n r e c => rw [hZ, Msg.By.ent0_not] at e; cases e
    | _ => omega
  exact ⟨by rw [he, hn]; simp, fun h => by rw [h] at he; cases he⟩
set_option maxHeartbeats 8000000 in
theorem fin7_4 {t : List UInt8} (hk : Msg.By.k bds7 t = 4) : ((fin7 t).err == 0 && ((fin7 t).s.done == 0 && Msg.right (fin7 t).m)) = Msg.By.ok bds7 Ent.vd t ∧ ((fin7 t).err = 0 → (fin7 t).m = Msg.By.read bds7 Ent.vd t) := by
 unfold Msg.By.ok
 have hkk : ((Msg.By.k bds7 t : Nat) : Int) = 4 := by rw [hk]; rfl
 have e1 : Msg.By.stShard bds7 t = ((Msg.By.stT bds7 t).1, 0) := by unfold Msg.By.stShard Msg.By.optNum; rw [decide_eq_false (by omega)]; rfl
 have e2 : Msg.By.stNumber bds7 t = (Msg.By.stShard bds7 t).1.num 1099511627776 := by unfold Msg.By.stNumber Msg.By.optNum; rw [decide_eq_true (by omega)]; rfl
 have e3 : Msg.By.stBallot bds7 t = ((Msg.By.stNumber bds7 t).1, 0) := by unfold Msg.By.stBallot Msg.By.optNum; rw [decide_eq_false (by omega)]; rfl
 have e4 : Msg.By.stOld bds7 t = ((Msg.By.stBallot bds7 t).1, 0) := by unfold Msg.By.stOld Msg.By.optNum; rw [decide_eq_false (by omega)]; rfl
 have e5 : Msg.By.stIs bds7 t = (Msg.By.stOld bds7 t).1.bool := by unfold Msg.By.stIs Msg.optBool; rw [decide_eq_true (by omega)]; rfl
 have e6 : Msg.By.stText bds7 t = ((Msg.By.stIs bds7 t).1, []) := by unfold Msg.By.stText Msg.By.optText; rw [decide_eq_false (by omega)]; rfl
 have hf : fin7 t = rdIs (rdNumber (head7 t)) := by
  unfold fin7 rdAll
  rw [step_f (x := head7 t) (f := 1) (g := rdShard) (mask_four (m := (head7 t).m) (.inl hkk)) (by decide),
  step_t (x := head7 t) (f := 2) (g := rdNumber) (mask_four (m := (head7 t).m) (.inl hkk)) (by decide),
  step_f (x := rdNumber (head7 t)) (f := 4) (g := rdEnt) (mask_four (m := (rdNumber (head7 t)).m) (.inl hkk)) (by decide),
  step_f (x := rdNumber (head7 t)) (f := 8) (g := rdBallot) (mask_four (m := (rdNumber (head7 t)).m) (.inl hkk)) (by decide),
  step_f (x := rdNumber (head7 t)) (f := 16) (g := rdOld) (mask_four (m := (rdNumber (head7 t)).m) (.inl hkk)) (by decide),
  step_t (x := rdNumber (head7 t)) (f := 32) (g := rdIs) (mask_four (m := (rdNumber (head7 t)).m) (.inl hkk)) (by decide),
  step_f (x := rdIs (rdNumber (head7 t))) (f := 64) (g := rdReco) (mask_four (m := (rdIs (rdNumber (head7 t))).m) (.inl hkk)) (by decide),
  step_f (x := rdIs (rdNumber (head7 t))) (f := 128) (g := rdConf) (mask_four (m := (rdIs (rdNumber (head7 t))).m) (.inl hkk)) (by decide)]
 have hs : (fin7 t).s = (Msg.By.stText bds7 t).1 := by rw [hf, e6, e5, e4, e3, e2, e1]; simp only [rdShard, rdNumber, rdEnt, rdBallot, rdOld, rdIs, rdReco, rdConf, head7] <;> rfl
 have he : (fin7 t).err = 0 := by rw [hf]; simp only [rdShard, rdNumber, rdEnt, rdBallot, rdOld, rdIs, rdReco, rdConf, head7] <;> rfl
 have hm : (fin7 t).m = Msg.By.read bds7 Ent.vd t := by
  rw [hf]
  unfold Msg.By.read Msg.By.recOf Msg.By.entOf Msg.By.confOf
  rw [if_neg (by omega), if_neg (by omega), if_neg (by omega), e5, e4, e3, e2, e1]
  simp only [rdShard, rdNumber, rdEnt, rdBallot, rdOld, rdIs, rdReco, rdConf, head7] <;> rfl
 have hg : Msg.By.recGot bds7 t = true := by unfold Msg.By.recGot; rw [decide_eq_false (by omega)]; rfl
 exact ⟨by rw [he, hs, hm, hg]; rfl, fun _ => hm⟩
set_option maxHeartbeats 8000000 in
theorem fin7_6 {t : List UInt8} (hk : Msg.By.k bds7 t = 6) : ((fin7 t).err == 0 && ((fin7 t).s.done == 0 && Msg.right (fin7 t).m)) = Msg.By.ok bds7 Ent.vd t ∧ ((fin7 t).err = 0 → (fin7 t).m = Msg.By.read bds7 Ent.vd t) := by
 unfold Msg.By.ok
 have hkk : ((Msg.By.k bds7 t : Nat) : Int) = 6 := by rw [hk]; rfl
 have e1 : Msg.By.stShard bds7 t = ((Msg.By.stT bds7 t).1, 0) := by unfold Msg.By.stShard Msg.By.optNum; rw [decide_eq_false (by omega)]; rfl
 have e2 : Msg.By.stNumber bds7 t = (Msg.By.stShard bds7 t).1.num 1099511627776 := by unfold Msg.By.stNumber Msg.By.optNum; rw [decide_eq_true (by omega)]; rfl
 have e3 : Msg.By.stBallot bds7 t = ((Msg.By.stNumber bds7 t).1, 0) := by unfold Msg.By.stBallot Msg.By.optNum; rw [decide_eq_false (by omega)]; rfl
 have e4 : Msg.By.stOld bds7 t = ((Msg.By.stBallot bds7 t).1, 0) := by unfold Msg.By.stOld Msg.By.optNum; rw [decide_eq_false (by omega)]; rfl
 have e5 : Msg.By.stIs bds7 t = (Msg.By.stOld bds7 t).1.bool := by unfold Msg.By.stIs Msg.optBool; rw [decide_eq_true (by omega)]; rfl
 have e6 : Msg.By.stText bds7 t = ((Msg.By.stIs bds7 t).1, []) := by unfold Msg.By.stText Msg.By.optText; rw [decide_eq_false (by omega)]; rfl
 have hf : fin7 t = rdIs (rdNumber (head7 t)) := by
  unfold fin7 rdAll
  rw [step_f (x := head7 t) (f := 1) (g := rdShard) (mask_four (m := (head7 t).m) (.inr hkk)) (by decide),
  step_t (x := head7 t) (f := 2) (g := rdNumber) (mask_four (m := (head7 t).m) (.inr hkk)) (by decide),
  step_f (x := rdNumber (head7 t)) (f := 4) (g := rdEnt) (mask_four (m := (rdNumber (head7 t)).m) (.inr hkk)) (by decide),
  step_f (x := rdNumber (head7 t)) (f := 8) (g := rdBallot) (mask_four (m := (rdNumber (head7 t)).m) (.inr hkk)) (by decide),
  step_f (x := rdNumber (head7 t)) (f := 16) (g := rdOld) (mask_four (m := (rdNumber (head7 t)).m) (.inr hkk)) (by decide),
  step_t (x := rdNumber (head7 t)) (f := 32) (g := rdIs) (mask_four (m := (rdNumber (head7 t)).m) (.inr hkk)) (by decide),
  step_f (x := rdIs (rdNumber (head7 t))) (f := 64) (g := rdReco) (mask_four (m := (rdIs (rdNumber (head7 t))).m) (.inr hkk)) (by decide),
  step_f (x := rdIs (rdNumber (head7 t))) (f := 128) (g := rdConf) (mask_four (m := (rdIs (rdNumber (head7 t))).m) (.inr hkk)) (by decide)]
 have hs : (fin7 t).s = (Msg.By.stText bds7 t).1 := by rw [hf, e6, e5, e4, e3, e2, e1]; simp only [rdShard, rdNumber, rdEnt, rdBallot, rdOld, rdIs, rdReco, rdConf, head7] <;> rfl
 have he : (fin7 t).err = 0 := by rw [hf]; simp only [rdShard, rdNumber, rdEnt, rdBallot, rdOld, rdIs, rdReco, rdConf, head7] <;> rfl
 have hm : (fin7 t).m = Msg.By.read bds7 Ent.vd t := by
  rw [hf]
  unfold Msg.By.read Msg.By.recOf Msg.By.entOf Msg.By.confOf
  rw [if_neg (by omega), if_neg (by omega), if_neg (by omega), e5, e4, e3, e2, e1]
  simp only [rdShard, rdNumber, rdEnt, rdBallot, rdOld, rdIs, rdReco, rdConf, head7] <;> rfl
 have hg : Msg.By.recGot bds7 t = true := by unfold Msg.By.recGot; rw [decide_eq_false (by omega)]; rfl
 exact ⟨by rw [he, hs, hm, hg]; rfl, fun _ => hm⟩
set_option maxHeartbeats 8000000 in
theorem fin7_7 {t : List UInt8} (hk : Msg.By.k bds7 t = 7) : ((fin7 t).err == 0 && ((fin7 t).s.done == 0 && Msg.right (fin7 t).m)) = Msg.By.ok bds7 Ent.vd t ∧ ((fin7 t).err = 0 → (fin7 t).m = Msg.By.read bds7 Ent.vd t) := by
 unfold Msg.By.ok
 have hkk : ((Msg.By.k bds7 t : Nat) : Int) = 7 := by rw [hk]; rfl
 have e1 : Msg.By.stShard bds7 t = ((Msg.By.stT bds7 t).1, 0) := by unfold Msg.By.stShard Msg.By.optNum; rw [decide_eq_false (by omega)]; rfl
 have e2 : Msg.By.stNumber bds7 t = ((Msg.By.stShard bds7 t).1, 0) := by unfold Msg.By.stNumber Msg.By.optNum; rw [decide_eq_false (by omega)]; rfl
 have e3 : Msg.By.stBallot bds7 t = (Msg.By.stNumber bds7 t).1.num 1099511627776 := by unfold Msg.By.stBallot Msg.By.optNum; rw [decide_eq_true (by omega)]; rfl
 have e4 : Msg.By.stOld bds7 t = ((Msg.By.stBallot bds7 t).1, 0) := by unfold Msg.By.stOld Msg.By.optNum; rw [decide_eq_false (by omega)]; rfl
 have e5 : Msg.By.stIs bds7 t = ((Msg.By.stOld bds7 t).1, false) := by unfold Msg.By.stIs Msg.optBool; rw [decide_eq_false (by omega)]; rfl
 have e6 : Msg.By.stText bds7 t = ((Msg.By.stIs bds7 t).1, []) := by unfold Msg.By.stText Msg.By.optText; rw [decide_eq_false (by omega)]; rfl
 have hf : fin7 t = rdBallot (head7 t) := by
  unfold fin7 rdAll
  rw [step_f (x := head7 t) (f := 1) (g := rdShard) (mask_seven (m := (head7 t).m) hkk) (by decide),
  step_f (x := head7 t) (f := 2) (g := rdNumber) (mask_seven (m := (head7 t).m) hkk) (by decide),
  step_f (x := head7 t) (f := 4) (g := rdEnt) (mask_seven (m := (head7 t).m) hkk) (by decide),
  step_t (x := head7 t) (f := 8) (g := rdBallot) (mask_seven (m := (head7 t).m) hkk) (by decide),
  step_f (x := rdBallot (head7 t)) (f := 16) (g := rdOld) (mask_seven (m := (rdBallot (head7 t)).m) hkk) (by decide),
  step_f (x := rdBallot (head7 t)) (f := 32) (g := rdIs) (mask_seven (m := (rdBallot (head7 t)).m) hkk) (by decide),
  step_f (x := rdBallot (head7 t)) (f := 64) (g := rdReco) (mask_seven (m := (rdBallot (head7 t)).m) hkk) (by decide),
  step_f (x := rdBallot (head7 t)) (f := 128) (g := rdConf) (mask_seven (m := (rdBallot (head7 t)).m) hkk) (by decide)]
 have hs : (fin7 t).s = (Msg.By.stText bds7 t).1 := by rw [hf, e6, e5, e4, e3, e2, e1]; simp only [rdShard, rdNumber, rdEnt, rdBallot, rdOld, rdIs, rdReco, rdConf, head7] <;> rfl
 have he : (fin7 t).err = 0 := by rw [hf]; simp only [rdShard, rdNumber, rdEnt, rdBallot, rdOld, rdIs, rdReco, rdConf, head7] <;> rfl
 have hm : (fin7 t).m = Msg.By.read bds7 Ent.vd t := by
  rw [hf]
  unfold Msg.By.read Msg.By.recOf Msg.By.entOf Msg.By.confOf
  rw [if_neg (by omega), if_neg (by omega), if_neg (by omega), e5, e4, e3, e2, e1]
  simp only [rdShard, rdNumber, rdEnt, rdBallot, rdOld, rdIs, rdReco, rdConf, head7] <;> rfl
 have hg : Msg.By.recGot bds7 t = true := by unfold Msg.By.recGot; rw [decide_eq_false (by omega)]; rfl
 exact ⟨by rw [he, hs, hm, hg]; rfl, fun _ => hm⟩
set_option maxHeartbeats 8000000 in
theorem fin7_8 {t : List UInt8} (hk : Msg.By.k bds7 t = 8) : ((fin7 t).err == 0 && ((fin7 t).s.done == 0 && Msg.right (fin7 t).m)) = Msg.By.ok bds7 Ent.vd t ∧ ((fin7 t).err = 0 → (fin7 t).m = Msg.By.read bds7 Ent.vd t) := by
 unfold Msg.By.ok
 have hkk : ((Msg.By.k bds7 t : Nat) : Int) = 8 := by rw [hk]; rfl
 have e1 : Msg.By.stShard bds7 t = ((Msg.By.stT bds7 t).1, 0) := by unfold Msg.By.stShard Msg.By.optNum; rw [decide_eq_false (by omega)]; rfl
 have e2 : Msg.By.stNumber bds7 t = ((Msg.By.stShard bds7 t).1, 0) := by unfold Msg.By.stNumber Msg.By.optNum; rw [decide_eq_false (by omega)]; rfl
 have e3 : Msg.By.stBallot bds7 t = (Msg.By.stNumber bds7 t).1.num 1099511627776 := by unfold Msg.By.stBallot Msg.By.optNum; rw [decide_eq_true (by omega)]; rfl
 have e4 : Msg.By.stOld bds7 t = (Msg.By.stBallot bds7 t).1.num 1099511627776 := by unfold Msg.By.stOld Msg.By.optNum; rw [decide_eq_true (by omega)]; rfl
 have e5 : Msg.By.stIs bds7 t = ((Msg.By.stOld bds7 t).1, false) := by unfold Msg.By.stIs Msg.optBool; rw [decide_eq_false (by omega)]; rfl
 have hov : (rdOld (rdBallot (head7 t))).m.old = (((Msg.By.stOld bds7 t).2 : Nat) : Int) := by rw [e4, e3, e2, e1]; simp only [rdShard, rdNumber, rdEnt, rdBallot, rdOld, rdIs, rdReco, rdConf, head7] <;> rfl
 by_cases ho0 : (Msg.By.stOld bds7 t).2 = 0
 · have ho : (rdOld (rdBallot (head7 t))).m.old = 0 := by omega
   have e6 : Msg.By.stText bds7 t = ((Msg.By.stIs bds7 t).1, []) := by unfold Msg.By.stText Msg.By.optText; rw [decide_eq_false (by omega)]; rfl
   have hf : fin7 t = rdOld (rdBallot (head7 t)) := by
    unfold fin7 rdAll
    rw [step_f (x := head7 t) (f := 1) (g := rdShard) (mask_eight0 (m := (head7 t).m) hkk (by rfl)) (by decide),
   step_f (x := head7 t) (f := 2) (g := rdNumber) (mask_eight0 (m := (head7 t).m) hkk (by rfl)) (by decide),
   step_f (x := head7 t) (f := 4) (g := rdEnt) (mask_eight0 (m := (head7 t).m) hkk (by rfl)) (by decide),
   step_t (x := head7 t) (f := 8) (g := rdBallot) (mask_eight0 (m := (head7 t).m) hkk (by rfl)) (by decide),
   step_t (x := rdBallot (head7 t)) (f := 16) (g := rdOld) (mask_eight0 (m := (rdBallot (head7 t)).m) hkk (by rfl)) (by decide),
   step_f (x := rdOld (rdBallot (head7 t))) (f := 32) (g := rdIs) (mask_eight0 (m := (rdOld (rdBallot (head7 t))).m) hkk (by exact ho)) (by decide),
   step_f (x := rdOld (rdBallot (head7 t))) (f := 64) (g := rdReco) (mask_eight0 (m := (rdOld (rdBallot (head7 t))).m) hkk (by exact ho)) (by decide),
   step_f (x := rdOld (rdBallot (head7 t))) (f := 128) (g := rdConf) (mask_eight0 (m := (rdOld (rdBallot (head7 t))).m) hkk (by exact ho)) (by decide)]
   have hs : (fin7 t).s = (Msg.By.stText bds7 t).1 := by rw [hf, e6, e5, e4, e3, e2, e1]; simp only [rdShard, rdNumber, rdEnt, rdBallot, rdOld, rdIs, rdReco, rdConf, head7] <;> rfl
   have he : (fin7 t).err = 0 := by rw [hf]; simp only [rdShard, rdNumber, rdEnt, rdBallot, rdOld, rdIs, rdReco, rdConf, head7] <;> rfl
   have hm : (fin7 t).m = Msg.By.read bds7 Ent.vd t := by
    rw [hf]
    unfold Msg.By.read Msg.By.recOf Msg.By.entOf Msg.By.confOf
    rw [if_neg (by omega), if_neg (by omega), if_neg (by omega), e5, e4, e3, e2, e1]
    simp only [rdShard, rdNumber, rdEnt, rdBallot, rdOld, rdIs, rdReco, rdConf, head7] <;> rfl
   have hg : Msg.By.recGot bds7 t = true := by unfold Msg.By.recGot; rw [decide_eq_false (by omega)]; rfl
   exact ⟨by rw [he, hs, hm, hg]; rfl, fun _ => hm⟩
 · have ho : ¬ (rdOld (rdBallot (head7 t))).m.old = 0 := by omega
   have e6 : Msg.By.stText bds7 t = (Msg.By.stIs bds7 t).1.text 65536 := by unfold Msg.By.stText Msg.By.optText; rw [decide_eq_true (by omega)]; rfl
   have hf : fin7 t = rdConf (rdOld (rdBallot (head7 t))) := by
    unfold fin7 rdAll
    rw [step_f (x := head7 t) (f := 1) (g := rdShard) (mask_eight0 (m := (head7 t).m) hkk (by rfl)) (by decide),
   step_f (x := head7 t) (f := 2) (g := rdNumber) (mask_eight0 (m := (head7 t).m) hkk (by rfl)) (by decide),
   step_f (x := head7 t) (f := 4) (g := rdEnt) (mask_eight0 (m := (head7 t).m) hkk (by rfl)) (by decide),
   step_t (x := head7 t) (f := 8) (g := rdBallot) (mask_eight0 (m := (head7 t).m) hkk (by rfl)) (by decide),
   step_t (x := rdBallot (head7 t)) (f := 16) (g := rdOld) (mask_eight0 (m := (rdBallot (head7 t)).m) hkk (by rfl)) (by decide),
   step_f (x := rdOld (rdBallot (head7 t))) (f := 32) (g := rdIs) (mask_eight (m := (rdOld (rdBallot (head7 t))).m) hkk (by exact ho)) (by decide),
   step_f (x := rdOld (rdBallot (head7 t))) (f := 64) (g := rdReco) (mask_eight (m := (rdOld (rdBallot (head7 t))).m) hkk (by exact ho)) (by decide),
   step_t (x := rdOld (rdBallot (head7 t))) (f := 128) (g := rdConf) (mask_eight (m := (rdOld (rdBallot (head7 t))).m) hkk (by exact ho)) (by decide)]
   have hs : (fin7 t).s = (Msg.By.stText bds7 t).1 := by rw [hf, e6, e5, e4, e3, e2, e1]; simp only [rdShard, rdNumber, rdEnt, rdBallot, rdOld, rdIs, rdReco, rdConf, head7] <;> rfl
   have hg : Msg.By.recGot bds7 t = true := by unfold Msg.By.recGot; rw [decide_eq_false (by omega)]; rfl
   cases hd : Term.dec (Msg.By.stText bds7 t).2 with
   | some r =>
    have d1 : Term.errOf (Term.dec (Msg.By.stText bds7 t).2) = 0 := by rw [hd]; rfl
    have he : (fin7 t).err = 0 := by rw [hf, ← d1, e6, e5, e4, e3, e2, e1]; simp only [rdShard, rdNumber, rdEnt, rdBallot, rdOld, rdIs, rdReco, rdConf, head7] <;> rfl
    have hx : Term.confOf (Term.dec (Msg.By.stText bds7 t).2) = r := by rw [hd]; rfl
    have hm : (fin7 t).m = Msg.By.read bds7 Ent.vd t := by
     unfold Msg.By.read Msg.By.recOf Msg.By.entOf Msg.By.confOf
     rw [if_neg (by omega), if_neg (by omega), if_pos (by omega), hd, show (some r).getD Msg.conf0 = r from rfl, ← hx, hf, e6, e5, e4, e3, e2, e1]
     simp only [rdShard, rdNumber, rdEnt, rdBallot, rdOld, rdIs, rdReco, rdConf, head7] <;> rfl
    exact ⟨by rw [he, hs, hm, hg]; rfl, fun _ => hm⟩
   | none =>
    have d1 : (Term.errOf (Term.dec (Msg.By.stText bds7 t).2) == 0) = false := by rw [hd]; rfl
    have he : ((fin7 t).err == 0) = false := by rw [hf, ← d1, e6, e5, e4, e3, e2, e1]; simp only [rdShard, rdNumber, rdEnt, rdBallot, rdOld, rdIs, rdReco, rdConf, head7] <;> rfl
    have hn : Msg.right (Msg.By.read bds7 Ent.vd t) = false := by
     cases h : Msg.right (Msg.By.read bds7 Ent.vd t) with
     | false => rfl
     | true =>
      exfalso
      obtain ⟨_, hi⟩ := Msg.right_is h
      have hK : (Msg.By.read bds7 Ent.vd t).kind = (Msg.By.k bds7 t : Int) := rfl
      have hZ : (Msg.By.read bds7 Ent.vd t).conf = Msg.conf0 := by show Msg.By.confOf bds7 t = _; unfold Msg.By.confOf; rw [if_pos (by omega), hd]; rfl
      have hO : (Msg.By.read bds7 Ent.vd t).old = ((Msg.By.stOld bds7 t).2 : Int) := rfl
      cases hi with
      | eight k1 b o i s n r e c t2 => rw [hZ, Msg.By.conf0_not] at c; cases c
      | _ => omega
    exact ⟨by rw [he, hn]; simp, fun h => by rw [h] at he; cases he⟩
set_option maxHeartbeats 8000000 in
theorem fin7_9 {t : List UInt8} (hk : Msg.By.k bds7 t = 9) : ((fin7 t).err == 0 && ((fin7 t).s.done == 0 && Msg.right (fin7 t).m)) = Msg.By.ok bds7 Ent.vd t ∧ ((fin7 t).err = 0 → (fin7 t).m = Msg.By.read bds7 Ent.vd t) := by
 unfold Msg.By.ok
 have hkk : ((Msg.By.k bds7 t : Nat) : Int) = 9 := by rw [hk]; rfl
 have e1 : Msg.By.stShard bds7 t = ((Msg.By.stT bds7 t).1, 0) := by unfold Msg.By.stShard Msg.By.optNum; rw [decide_eq_false (by omega)]; rfl
 have e2 : Msg.By.stNumber bds7 t = ((Msg.By.stShard bds7 t).1, 0) := by unfold Msg.By.stNumber Msg.By.optNum; rw [decide_eq_false (by omega)]; rfl
 have e3 : Msg.By.stBallot bds7 t = (Msg.By.stNumber bds7 t).1.num 1099511627776 := by unfold Msg.By.stBallot Msg.By.optNum; rw [decide_eq_true (by omega)]; rfl
 have e4 : Msg.By.stOld bds7 t = ((Msg.By.stBallot bds7 t).1, 0) := by unfold Msg.By.stOld Msg.By.optNum; rw [decide_eq_false (by omega)]; rfl
 have e5 : Msg.By.stIs bds7 t = ((Msg.By.stOld bds7 t).1, false) := by unfold Msg.By.stIs Msg.optBool; rw [decide_eq_false (by omega)]; rfl
 have e6 : Msg.By.stText bds7 t = (Msg.By.stIs bds7 t).1.text 65536 := by unfold Msg.By.stText Msg.By.optText; rw [decide_eq_true (by omega)]; rfl
 have hf : fin7 t = rdConf (rdBallot (head7 t)) := by
  unfold fin7 rdAll
  rw [step_f (x := head7 t) (f := 1) (g := rdShard) (mask_nine (m := (head7 t).m) hkk) (by decide),
  step_f (x := head7 t) (f := 2) (g := rdNumber) (mask_nine (m := (head7 t).m) hkk) (by decide),
  step_f (x := head7 t) (f := 4) (g := rdEnt) (mask_nine (m := (head7 t).m) hkk) (by decide),
  step_t (x := head7 t) (f := 8) (g := rdBallot) (mask_nine (m := (head7 t).m) hkk) (by decide),
  step_f (x := rdBallot (head7 t)) (f := 16) (g := rdOld) (mask_nine (m := (rdBallot (head7 t)).m) hkk) (by decide),
  step_f (x := rdBallot (head7 t)) (f := 32) (g := rdIs) (mask_nine (m := (rdBallot (head7 t)).m) hkk) (by decide),
  step_f (x := rdBallot (head7 t)) (f := 64) (g := rdReco) (mask_nine (m := (rdBallot (head7 t)).m) hkk) (by decide),
  step_t (x := rdBallot (head7 t)) (f := 128) (g := rdConf) (mask_nine (m := (rdBallot (head7 t)).m) hkk) (by decide)]
 have hs : (fin7 t).s = (Msg.By.stText bds7 t).1 := by rw [hf, e6, e5, e4, e3, e2, e1]; simp only [rdShard, rdNumber, rdEnt, rdBallot, rdOld, rdIs, rdReco, rdConf, head7] <;> rfl
 have hg : Msg.By.recGot bds7 t = true := by unfold Msg.By.recGot; rw [decide_eq_false (by omega)]; rfl
 cases hd : Term.dec (Msg.By.stText bds7 t).2 with
 | some r =>
  have d1 : Term.errOf (Term.dec (Msg.By.stText bds7 t).2) = 0 := by rw [hd]; rfl
  have he : (fin7 t).err = 0 := by rw [hf, ← d1, e6, e5, e4, e3, e2, e1]; simp only [rdShard, rdNumber, rdEnt, rdBallot, rdOld, rdIs, rdReco, rdConf, head7] <;> rfl
  have hx : Term.confOf (Term.dec (Msg.By.stText bds7 t).2) = r := by rw [hd]; rfl
  have hm : (fin7 t).m = Msg.By.read bds7 Ent.vd t := by
   unfold Msg.By.read Msg.By.recOf Msg.By.entOf Msg.By.confOf
   rw [if_neg (by omega), if_neg (by omega), if_pos (by omega), hd, show (some r).getD Msg.conf0 = r from rfl, ← hx, hf, e6, e5, e4, e3, e2, e1]
   simp only [rdShard, rdNumber, rdEnt, rdBallot, rdOld, rdIs, rdReco, rdConf, head7] <;> rfl
  exact ⟨by rw [he, hs, hm, hg]; rfl, fun _ => hm⟩
 | none =>
  have d1 : (Term.errOf (Term.dec (Msg.By.stText bds7 t).2) == 0) = false := by rw [hd]; rfl
  have he : ((fin7 t).err == 0) = false := by rw [hf, ← d1, e6, e5, e4, e3, e2, e1]; simp only [rdShard, rdNumber, rdEnt, rdBallot, rdOld, rdIs, rdReco, rdConf, head7] <;> rfl
  have hn : Msg.right (Msg.By.read bds7 Ent.vd t) = false := by
   cases h : Msg.right (Msg.By.read bds7 Ent.vd t) with
   | false => rfl
   | true =>
    exfalso
    obtain ⟨_, hi⟩ := Msg.right_is h
    have hK : (Msg.By.read bds7 Ent.vd t).kind = (Msg.By.k bds7 t : Int) := rfl
    have hZ : (Msg.By.read bds7 Ent.vd t).conf = Msg.conf0 := by show Msg.By.confOf bds7 t = _; unfold Msg.By.confOf; rw [if_pos (by omega), hd]; rfl
    cases hi with
    | nine k1 b o i s n r e c t2 => rw [hZ, Msg.By.conf0_not] at c; cases c
    | _ => omega
  exact ⟨by rw [he, hn]; simp, fun h => by rw [h] at he; cases he⟩
set_option maxHeartbeats 8000000 in
theorem fin7_10 {t : List UInt8} (hk : Msg.By.k bds7 t = 10) : ((fin7 t).err == 0 && ((fin7 t).s.done == 0 && Msg.right (fin7 t).m)) = Msg.By.ok bds7 Ent.vd t ∧ ((fin7 t).err = 0 → (fin7 t).m = Msg.By.read bds7 Ent.vd t) := by
 unfold Msg.By.ok
 have hkk : ((Msg.By.k bds7 t : Nat) : Int) = 10 := by rw [hk]; rfl
 have e1 : Msg.By.stShard bds7 t = ((Msg.By.stT bds7 t).1, 0) := by unfold Msg.By.stShard Msg.By.optNum; rw [decide_eq_false (by omega)]; rfl
 have e2 : Msg.By.stNumber bds7 t = ((Msg.By.stShard bds7 t).1, 0) := by unfold Msg.By.stNumber Msg.By.optNum; rw [decide_eq_false (by omega)]; rfl
 have e3 : Msg.By.stBallot bds7 t = (Msg.By.stNumber bds7 t).1.num 1099511627776 := by unfold Msg.By.stBallot Msg.By.optNum; rw [decide_eq_true (by omega)]; rfl
 have e4 : Msg.By.stOld bds7 t = ((Msg.By.stBallot bds7 t).1, 0) := by unfold Msg.By.stOld Msg.By.optNum; rw [decide_eq_false (by omega)]; rfl
 have e5 : Msg.By.stIs bds7 t = (Msg.By.stOld bds7 t).1.bool := by unfold Msg.By.stIs Msg.optBool; rw [decide_eq_true (by omega)]; rfl
 have e6 : Msg.By.stText bds7 t = ((Msg.By.stIs bds7 t).1, []) := by unfold Msg.By.stText Msg.By.optText; rw [decide_eq_false (by omega)]; rfl
 have hf : fin7 t = rdIs (rdBallot (head7 t)) := by
  unfold fin7 rdAll
  rw [step_f (x := head7 t) (f := 1) (g := rdShard) (mask_ten (m := (head7 t).m) hkk) (by decide),
  step_f (x := head7 t) (f := 2) (g := rdNumber) (mask_ten (m := (head7 t).m) hkk) (by decide),
  step_f (x := head7 t) (f := 4) (g := rdEnt) (mask_ten (m := (head7 t).m) hkk) (by decide),
  step_t (x := head7 t) (f := 8) (g := rdBallot) (mask_ten (m := (head7 t).m) hkk) (by decide),
  step_f (x := rdBallot (head7 t)) (f := 16) (g := rdOld) (mask_ten (m := (rdBallot (head7 t)).m) hkk) (by decide),
  step_t (x := rdBallot (head7 t)) (f := 32) (g := rdIs) (mask_ten (m := (rdBallot (head7 t)).m) hkk) (by decide),
  step_f (x := rdIs (rdBallot (head7 t))) (f := 64) (g := rdReco) (mask_ten (m := (rdIs (rdBallot (head7 t))).m) hkk) (by decide),
  step_f (x := rdIs (rdBallot (head7 t))) (f := 128) (g := rdConf) (mask_ten (m := (rdIs (rdBallot (head7 t))).m) hkk) (by decide)]
 have hs : (fin7 t).s = (Msg.By.stText bds7 t).1 := by rw [hf, e6, e5, e4, e3, e2, e1]; simp only [rdShard, rdNumber, rdEnt, rdBallot, rdOld, rdIs, rdReco, rdConf, head7] <;> rfl
 have he : (fin7 t).err = 0 := by rw [hf]; simp only [rdShard, rdNumber, rdEnt, rdBallot, rdOld, rdIs, rdReco, rdConf, head7] <;> rfl
 have hm : (fin7 t).m = Msg.By.read bds7 Ent.vd t := by
  rw [hf]
  unfold Msg.By.read Msg.By.recOf Msg.By.entOf Msg.By.confOf
  rw [if_neg (by omega), if_neg (by omega), if_neg (by omega), e5, e4, e3, e2, e1]
  simp only [rdShard, rdNumber, rdEnt, rdBallot, rdOld, rdIs, rdReco, rdConf, head7] <;> rfl
 have hg : Msg.By.recGot bds7 t = true := by unfold Msg.By.recGot; rw [decide_eq_false (by omega)]; rfl
 exact ⟨by rw [he, hs, hm, hg]; rfl, fun _ => hm⟩
set_option maxHeartbeats 8000000 in
theorem fin7_0 {t : List UInt8} (z1 : Msg.By.k bds7 t ≠ 1) (z2 : Msg.By.k bds7 t ≠ 2) (z3 : Msg.By.k bds7 t ≠ 3) (z4 : Msg.By.k bds7 t ≠ 4) (z6 : Msg.By.k bds7 t ≠ 6) (z7 : Msg.By.k bds7 t ≠ 7) (z8 : Msg.By.k bds7 t ≠ 8) (z9 : Msg.By.k bds7 t ≠ 9) (z10 : Msg.By.k bds7 t ≠ 10) (hle : Msg.By.k bds7 t ≤ 10) : ((fin7 t).err == 0 && ((fin7 t).s.done == 0 && Msg.right (fin7 t).m)) = Msg.By.ok bds7 Ent.vd t ∧ ((fin7 t).err = 0 → (fin7 t).m = Msg.By.read bds7 Ent.vd t) := by
 unfold Msg.By.ok
 have hk : mask (head7 t).m = 0 := maskNone (by rw [beq_eq_false_iff_ne]; show ((Msg.By.k bds7 t : Nat) : Int) ≠ 1; omega) (by rw [beq_eq_false_iff_ne]; show ((Msg.By.k bds7 t : Nat) : Int) ≠ 2; omega) (by rw [beq_eq_false_iff_ne]; show ((Msg.By.k bds7 t : Nat) : Int) ≠ 3; omega) (by rw [beq_eq_false_iff_ne]; show ((Msg.By.k bds7 t : Nat) : Int) ≠ 4; omega) (by rw [beq_eq_false_iff_ne]; show ((Msg.By.k bds7 t : Nat) : Int) ≠ 6; omega) (by rw [beq_eq_false_iff_ne]; show ((Msg.By.k bds7 t : Nat) : Int) ≠ 8; omega) (by rw [beq_eq_false_iff_ne]; show ((Msg.By.k bds7 t : Nat) : Int) ≠ 9; omega) (by rw [beq_eq_false_iff_ne]; show ((Msg.By.k bds7 t : Nat) : Int) ≠ 7; omega) (by rw [beq_eq_false_iff_ne]; show ((Msg.By.k bds7 t : Nat) : Int) ≠ 10; omega)
 have e1 : Msg.By.stShard bds7 t = ((Msg.By.stT bds7 t).1, 0) := by unfold Msg.By.stShard Msg.By.optNum; rw [decide_eq_false (by omega)]; rfl
 have e2 : Msg.By.stNumber bds7 t = ((Msg.By.stShard bds7 t).1, 0) := by unfold Msg.By.stNumber Msg.By.optNum; rw [decide_eq_false (by omega)]; rfl
 have e3 : Msg.By.stBallot bds7 t = ((Msg.By.stNumber bds7 t).1, 0) := by unfold Msg.By.stBallot Msg.By.optNum; rw [decide_eq_false (by omega)]; rfl
 have e4 : Msg.By.stOld bds7 t = ((Msg.By.stBallot bds7 t).1, 0) := by unfold Msg.By.stOld Msg.By.optNum; rw [decide_eq_false (by omega)]; rfl
 have e5 : Msg.By.stIs bds7 t = ((Msg.By.stOld bds7 t).1, false) := by unfold Msg.By.stIs Msg.optBool; rw [decide_eq_false (by omega)]; rfl
 have e6 : Msg.By.stText bds7 t = ((Msg.By.stIs bds7 t).1, []) := by unfold Msg.By.stText Msg.By.optText; rw [decide_eq_false (by omega)]; rfl
 have hf : fin7 t = head7 t := by
  unfold fin7 rdAll
  rw [step_f (x := head7 t) (f := 1) (g := rdShard) (hk) (by decide),
  step_f (x := head7 t) (f := 2) (g := rdNumber) (hk) (by decide),
  step_f (x := head7 t) (f := 4) (g := rdEnt) (hk) (by decide),
  step_f (x := head7 t) (f := 8) (g := rdBallot) (hk) (by decide),
  step_f (x := head7 t) (f := 16) (g := rdOld) (hk) (by decide),
  step_f (x := head7 t) (f := 32) (g := rdIs) (hk) (by decide),
  step_f (x := head7 t) (f := 64) (g := rdReco) (hk) (by decide),
  step_f (x := head7 t) (f := 128) (g := rdConf) (hk) (by decide)]
 have hs : (fin7 t).s = (Msg.By.stText bds7 t).1 := by rw [hf, e6, e5, e4, e3, e2, e1]; simp only [rdShard, rdNumber, rdEnt, rdBallot, rdOld, rdIs, rdReco, rdConf, head7] <;> rfl
 have he : (fin7 t).err = 0 := by rw [hf]; simp only [rdShard, rdNumber, rdEnt, rdBallot, rdOld, rdIs, rdReco, rdConf, head7] <;> rfl
 have hm : (fin7 t).m = Msg.By.read bds7 Ent.vd t := by
  rw [hf]
  unfold Msg.By.read Msg.By.recOf Msg.By.entOf Msg.By.confOf
  rw [if_neg (by omega), if_neg (by omega), if_neg (by omega), e5, e4, e3, e2, e1]
  simp only [rdShard, rdNumber, rdEnt, rdBallot, rdOld, rdIs, rdReco, rdConf, head7] <;> rfl
 have hg : Msg.By.recGot bds7 t = true := by unfold Msg.By.recGot; rw [decide_eq_false (by omega)]; rfl
 exact ⟨by rw [he, hs, hm, hg]; rfl, fun _ => hm⟩
theorem fin7_ok (t : List UInt8) : ((fin7 t).err == 0 && ((fin7 t).s.done == 0 && Msg.right (fin7 t).m)) = Msg.By.ok bds7 Ent.vd t ∧ ((fin7 t).err = 0 → (fin7 t).m = Msg.By.read bds7 Ent.vd t) := by
 have hle : Msg.By.k bds7 t ≤ 10 := by
  have h := numMost ⟨t, 0⟩ 10 (by decide)
  have e : Msg.By.k bds7 t = (Pack.St.num ⟨t, 0⟩ 10).2 := rfl
  omega
 by_cases h1 : Msg.By.k bds7 t = 1
 · exact fin7_1 h1
 by_cases h2 : Msg.By.k bds7 t = 2
 · exact fin7_2 h2
 by_cases h3 : Msg.By.k bds7 t = 3
 · exact fin7_3 h3
 by_cases h4 : Msg.By.k bds7 t = 4
 · exact fin7_4 h4
 by_cases h6 : Msg.By.k bds7 t = 6
 · exact fin7_6 h6
 by_cases h7 : Msg.By.k bds7 t = 7
 · exact fin7_7 h7
 by_cases h8 : Msg.By.k bds7 t = 8
 · exact fin7_8 h8
 by_cases h9 : Msg.By.k bds7 t = 9
 · exact fin7_9 h9
 by_cases h10 : Msg.By.k bds7 t = 10
 · exact fin7_10 h10
 exact fin7_0 h1 h2 h3 h4 h6 h7 h8 h9 h10 hle
end Go.Proofs.YtldfpklgbedgjaaGreat
