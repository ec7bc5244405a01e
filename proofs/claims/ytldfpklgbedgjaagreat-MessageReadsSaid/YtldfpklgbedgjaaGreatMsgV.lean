/-
 Merged: Layer 7, the document: what its way of reading makes of a text.
-/
import Derived.Test.YtldfpklgbedgjaaGreatMsgU1
import Derived.Test.YtldfpklgbedgjaaGreatMsgU2
import Derived.Test.YtldfpklgbedgjaaGreatMsgU3
import Derived.Test.YtldfpklgbedgjaaGreatMsgU4
namespace Go.Proofs.YtldfpklgbedgjaaGreat
set_option linter.unusedSimpArgs false
set_option linter.unusedVariables false
set_option maxRecDepth 100000
open Go.RowKit
theorem fields7_any (l : List UInt8) (s : Pack.St) (m : Msg.M) (rt et sv dv : Value) (w : World) (hs : Sim l s) (hl : l.length ≤ 140737488355328) (hr : RowsM w rt et sv dv m) : Calls Tryz.prog 51 #[.agg (stCells l s.err m rt et sv dv)] w (GivesFields w l.length (fieldsR ⟨m, 0, s⟩)) := by
 by_cases h1 : m.kind = 1
 · exact fields7_1 l s m rt et sv dv w hs hl hr h1
 by_cases h2 : m.kind = 2
 · exact fields7_2 l s m rt et sv dv w hs hl hr h2
 by_cases h3 : m.kind = 3
 · exact fields7_3 l s m rt et sv dv w hs hl hr h3
 by_cases h4 : m.kind = 4
 · exact fields7_4 l s m rt et sv dv w hs hl hr h4
 by_cases h5 : m.kind = 5
 · exact fields7_5 l s m rt et sv dv w hs hl hr h5
 by_cases h6 : m.kind = 6
 · exact fields7_6 l s m rt et sv dv w hs hl hr h6
 by_cases h7 : m.kind = 7
 · exact fields7_7 l s m rt et sv dv w hs hl hr h7
 by_cases h8 : m.kind = 8
 · by_cases ho : (rdOld (rdBallot ⟨m, 0, s⟩)).m.old = 0
   · exact fields7_8z l s m rt et sv dv w hs hl hr h8 ho
   · exact fields7_8n l s m rt et sv dv w hs hl hr h8 ho
 by_cases h9 : m.kind = 9
 · exact fields7_9 l s m rt et sv dv w hs hl hr h9
 by_cases h10 : m.kind = 10
 · exact fields7_10 l s m rt et sv dv w hs hl hr h10
 by_cases hlo : m.kind < 1
 · exact fields7_lo l s m rt et sv dv w hs hl hr hlo
 · exact fields7_hi l s m rt et sv dv w hs hl hr (by omega)
def rdKindR (x : St7) : St7 := ⟨{ x.m with kind := ((x.s.num 1099511627776).2 : Nat) }, x.err, (x.s.num 1099511627776).1⟩
def rdSrcR (x : St7) : St7 := ⟨{ x.m with src := ((x.s.num 1099511627776).2 : Nat) }, x.err, (x.s.num 1099511627776).1⟩
def rdDstR (x : St7) : St7 := ⟨{ x.m with dst := ((x.s.num 1099511627776).2 : Nat) }, x.err, (x.s.num 1099511627776).1⟩
def rdTermR (x : St7) : St7 := ⟨{ x.m with term := ((x.s.num 1099511627776).2 : Nat) }, x.err, (x.s.num 1099511627776).1⟩
def headR (t : List UInt8) : St7 := ⟨⟨(Msg.k t : Nat), ((Msg.stS t).2 : Nat), ((Msg.stD t).2 : Nat), ((Msg.stT t).2 : Nat), 0, 0, false, Msg.rec0, Msg.ent0, 0, 0, Msg.conf0⟩, 0, (Msg.stT t).1⟩
theorem dec4_get (l : List UInt8) : decRec4 (Crc.cutOf l) = (Rec.dec l).getD Msg.rec0 := by
 cases h : Rec.dec l with
 | some r => exact (dec4_yes h).2
 | none =>
  unfold Rec.dec at h
  split at h
  · rename_i hc
    rw [hc]
    rfl
  · rename_i t hc
    split at h
    · cases h
    · rename_i hk
      rw [hc, decRec4_some, show Rec.readOk t = false by simpa using hk]
      rfl
theorem dec5_get (o : Option Ent.E) : Ent.entOf o = o.getD Msg.ent0 := by cases o <;> rfl
theorem dec6_get (o : Option Term.C) : Term.confOf o = o.getD Msg.conf0 := by cases o <;> rfl
set_option maxHeartbeats 4000000 in
theorem read7_1 {t : List UInt8} (hk : Msg.k t = 1) : (fieldsR (headR t)).m = Msg.read Ent.vd t ∧ (fieldsR (headR t)).s = (Msg.stText t).1 := by
 have e1 : Msg.stShard t = (Msg.stT t).1.num 1099511627776 := by unfold Msg.stShard Msg.optNum; rw [decide_eq_true (by omega)]; rfl
 have e2 : Msg.stNumber t = (Msg.stShard t).1.num 1099511627776 := by unfold Msg.stNumber Msg.optNum; rw [decide_eq_true (by omega)]; rfl
 have e3 : Msg.stBallot t = ((Msg.stNumber t).1, 0) := by unfold Msg.stBallot Msg.optNum; rw [decide_eq_false (by omega)]; rfl
 have e4 : Msg.stOld t = ((Msg.stBallot t).1, 0) := by unfold Msg.stOld Msg.optNum; rw [decide_eq_false (by omega)]; rfl
 have e5 : Msg.stIs t = ((Msg.stOld t).1, false) := by unfold Msg.stIs Msg.optBool; rw [decide_eq_false (by omega)]; rfl
 have e6 : Msg.stText t = (Msg.stIs t).1.text 65536 := by unfold Msg.stText Msg.optText; rw [decide_eq_true (by omega)]; rfl
 have hK : (headR t).m.kind = ((Msg.k t : Nat) : Int) := rfl
 have hf : fieldsR (headR t) = rdReco (rdNumber (rdShardR (headR t))) := by unfold fieldsR; rw [if_pos (by omega)]
 refine ⟨?_, by rw [hf, e6, e5, e4, e3, e2, e1]; simp only [rdShardR, rdShard, rdNumber, rdEnt, rdBallot, rdOld, rdIs, rdReco, rdConf, headR] <;> rfl⟩
 unfold Msg.read Msg.recOf Msg.entOf Msg.confOf
 rw [if_pos hk, if_neg (by omega), if_neg (by omega), ← dec4_get, hf, e6, e5, e4, e3, e2, e1]
 simp only [rdShardR, rdShard, rdNumber, rdEnt, rdBallot, rdOld, rdIs, rdReco, rdConf, headR] <;> rfl
set_option maxHeartbeats 4000000 in
theorem read7_2 {t : List UInt8} (hk : Msg.k t = 2) : (fieldsR (headR t)).m = Msg.read Ent.vd t ∧ (fieldsR (headR t)).s = (Msg.stText t).1 := by
 have e1 : Msg.stShard t = (Msg.stT t).1.num 1099511627776 := by unfold Msg.stShard Msg.optNum; rw [decide_eq_true (by omega)]; rfl
 have e2 : Msg.stNumber t = (Msg.stShard t).1.num 1099511627776 := by unfold Msg.stNumber Msg.optNum; rw [decide_eq_true (by omega)]; rfl
 have e3 : Msg.stBallot t = ((Msg.stNumber t).1, 0) := by unfold Msg.stBallot Msg.optNum; rw [decide_eq_false (by omega)]; rfl
 have e4 : Msg.stOld t = ((Msg.stBallot t).1, 0) := by unfold Msg.stOld Msg.optNum; rw [decide_eq_false (by omega)]; rfl
 have e5 : Msg.stIs t = ((Msg.stOld t).1, false) := by unfold Msg.stIs Msg.optBool; rw [decide_eq_false (by omega)]; rfl
 have e6 : Msg.stText t = ((Msg.stIs t).1, []) := by unfold Msg.stText Msg.optText; rw [decide_eq_false (by omega)]; rfl
 have hK : (headR t).m.kind = ((Msg.k t : Nat) : Int) := rfl
 have hf : fieldsR (headR t) = rdNumber (rdShardR (headR t)) := by unfold fieldsR; rw [if_neg (by omega), if_pos (by omega)]
 refine ⟨?_, by rw [hf, e6, e5, e4, e3, e2, e1]; simp only [rdShardR, rdShard, rdNumber, rdEnt, rdBallot, rdOld, rdIs, rdReco, rdConf, headR] <;> rfl⟩
 unfold Msg.read Msg.recOf Msg.entOf Msg.confOf
 rw [if_neg (by omega), if_neg (by omega), if_neg (by omega), hf, e5, e4, e3, e2, e1]
 simp only [rdShardR, rdShard, rdNumber, rdEnt, rdBallot, rdOld, rdIs, rdReco, rdConf, headR] <;> rfl
set_option maxHeartbeats 4000000 in
theorem read7_3 {t : List UInt8} (hk : Msg.k t = 3) : (fieldsR (headR t)).m = Msg.read Ent.vd t ∧ (fieldsR (headR t)).s = (Msg.stText t).1 := by
 have e1 : Msg.stShard t = ((Msg.stT t).1, 0) := by unfold Msg.stShard Msg.optNum; rw [decide_eq_false (by omega)]; rfl
 have e2 : Msg.stNumber t = ((Msg.stShard t).1, 0) := by unfold Msg.stNumber Msg.optNum; rw [decide_eq_false (by omega)]; rfl
 have e3 : Msg.stBallot t = ((Msg.stNumber t).1, 0) := by unfold Msg.stBallot Msg.optNum; rw [decide_eq_false (by omega)]; rfl
 have e4 : Msg.stOld t = ((Msg.stBallot t).1, 0) := by unfold Msg.stOld Msg.optNum; rw [decide_eq_false (by omega)]; rfl
 have e5 : Msg.stIs t = ((Msg.stOld t).1, false) := by unfold Msg.stIs Msg.optBool; rw [decide_eq_false (by omega)]; rfl
 have e6 : Msg.stText t = (Msg.stIs t).1.text 65536 := by unfold Msg.stText Msg.optText; rw [decide_eq_true (by omega)]; rfl
 have hK : (headR t).m.kind = ((Msg.k t : Nat) : Int) := rfl
 have hf : fieldsR (headR t) = rdEnt (headR t) := by unfold fieldsR; rw [if_neg (by omega), if_neg (by omega), if_pos (by omega)]
 refine ⟨?_, by rw [hf, e6, e5, e4, e3, e2, e1]; simp only [rdShardR, rdShard, rdNumber, rdEnt, rdBallot, rdOld, rdIs, rdReco, rdConf, headR] <;> rfl⟩
 unfold Msg.read Msg.recOf Msg.entOf Msg.confOf
 rw [if_neg (by omega), if_pos hk, if_neg (by omega), ← dec5_get, hf, e6, e5, e4, e3, e2, e1]
 simp only [rdShardR, rdShard, rdNumber, rdEnt, rdBallot, rdOld, rdIs, rdReco, rdConf, headR] <;> rfl
set_option maxHeartbeats 4000000 in
theorem read7_4 {t : List UInt8} (hk : Msg.k t = 4) : (fieldsR (headR t)).m = Msg.read Ent.vd t ∧ (fieldsR (headR t)).s = (Msg.stText t).1 := by
 have e1 : Msg.stShard t = ((Msg.stT t).1, 0) := by unfold Msg.stShard Msg.optNum; rw [decide_eq_false (by omega)]; rfl
 have e2 : Msg.stNumber t = (Msg.stShard t).1.num 1099511627776 := by unfold Msg.stNumber Msg.optNum; rw [decide_eq_true (by omega)]; rfl
 have e3 : Msg.stBallot t = ((Msg.stNumber t).1, 0) := by unfold Msg.stBallot Msg.optNum; rw [decide_eq_false (by omega)]; rfl
 have e4 : Msg.stOld t = ((Msg.stBallot t).1, 0) := by unfold Msg.stOld Msg.optNum; rw [decide_eq_false (by omega)]; rfl
 have e5 : Msg.stIs t = (Msg.stOld t).1.bool := by unfold Msg.stIs Msg.optBool; rw [decide_eq_true (by omega)]; rfl
 have e6 : Msg.stText t = ((Msg.stIs t).1, []) := by unfold Msg.stText Msg.optText; rw [decide_eq_false (by omega)]; rfl
 have hK : (headR t).m.kind = ((Msg.k t : Nat) : Int) := rfl
 have hf : fieldsR (headR t) = rdIs (rdNumber (headR t)) := by unfold fieldsR; rw [if_neg (by omega), if_neg (by omega), if_neg (by omega), if_pos (by omega)]
 refine ⟨?_, by rw [hf, e6, e5, e4, e3, e2, e1]; simp only [rdShardR, rdShard, rdNumber, rdEnt, rdBallot, rdOld, rdIs, rdReco, rdConf, headR] <;> rfl⟩
 unfold Msg.read Msg.recOf Msg.entOf Msg.confOf
 rw [if_neg (by omega), if_neg (by omega), if_neg (by omega), hf, e5, e4, e3, e2, e1]
 simp only [rdShardR, rdShard, rdNumber, rdEnt, rdBallot, rdOld, rdIs, rdReco, rdConf, headR] <;> rfl
set_option maxHeartbeats 4000000 in
theorem read7_6 {t : List UInt8} (hk : Msg.k t = 6) : (fieldsR (headR t)).m = Msg.read Ent.vd t ∧ (fieldsR (headR t)).s = (Msg.stText t).1 := by
 have e1 : Msg.stShard t = ((Msg.stT t).1, 0) := by unfold Msg.stShard Msg.optNum; rw [decide_eq_false (by omega)]; rfl
 have e2 : Msg.stNumber t = (Msg.stShard t).1.num 1099511627776 := by unfold Msg.stNumber Msg.optNum; rw [decide_eq_true (by omega)]; rfl
 have e3 : Msg.stBallot t = ((Msg.stNumber t).1, 0) := by unfold Msg.stBallot Msg.optNum; rw [decide_eq_false (by omega)]; rfl
 have e4 : Msg.stOld t = ((Msg.stBallot t).1, 0) := by unfold Msg.stOld Msg.optNum; rw [decide_eq_false (by omega)]; rfl
 have e5 : Msg.stIs t = (Msg.stOld t).1.bool := by unfold Msg.stIs Msg.optBool; rw [decide_eq_true (by omega)]; rfl
 have e6 : Msg.stText t = ((Msg.stIs t).1, []) := by unfold Msg.stText Msg.optText; rw [decide_eq_false (by omega)]; rfl
 have hK : (headR t).m.kind = ((Msg.k t : Nat) : Int) := rfl
 have hf : fieldsR (headR t) = rdIs (rdNumber (headR t)) := by unfold fieldsR; rw [if_neg (by omega), if_neg (by omega), if_neg (by omega), if_pos (by omega)]
 refine ⟨?_, by rw [hf, e6, e5, e4, e3, e2, e1]; simp only [rdShardR, rdShard, rdNumber, rdEnt, rdBallot, rdOld, rdIs, rdReco, rdConf, headR] <;> rfl⟩
 unfold Msg.read Msg.recOf Msg.entOf Msg.confOf
 rw [if_neg (by omega), if_neg (by omega), if_neg (by omega), hf, e5, e4, e3, e2, e1]
 simp only [rdShardR, rdShard, rdNumber, rdEnt, rdBallot, rdOld, rdIs, rdReco, rdConf, headR] <;> rfl
set_option maxHeartbeats 4000000 in
theorem read7_7 {t : List UInt8} (hk : Msg.k t = 7) : (fieldsR (headR t)).m = Msg.read Ent.vd t ∧ (fieldsR (headR t)).s = (Msg.stText t).1 := by
 have e1 : Msg.stShard t = ((Msg.stT t).1, 0) := by unfold Msg.stShard Msg.optNum; rw [decide_eq_false (by omega)]; rfl
 have e2 : Msg.stNumber t = ((Msg.stShard t).1, 0) := by unfold Msg.stNumber Msg.optNum; rw [decide_eq_false (by omega)]; rfl
 have e3 : Msg.stBallot t = (Msg.stNumber t).1.num 1099511627776 := by unfold Msg.stBallot Msg.optNum; rw [decide_eq_true (by omega)]; rfl
 have e4 : Msg.stOld t = ((Msg.stBallot t).1, 0) := by unfold Msg.stOld Msg.optNum; rw [decide_eq_false (by omega)]; rfl
 have e5 : Msg.stIs t = ((Msg.stOld t).1, false) := by unfold Msg.stIs Msg.optBool; rw [decide_eq_false (by omega)]; rfl
 have e6 : Msg.stText t = ((Msg.stIs t).1, []) := by unfold Msg.stText Msg.optText; rw [decide_eq_false (by omega)]; rfl
 have hK : (headR t).m.kind = ((Msg.k t : Nat) : Int) := rfl
 have hf : fieldsR (headR t) = rdBallot (headR t) := by unfold fieldsR; rw [if_neg (by omega), if_neg (by omega), if_neg (by omega), if_neg (by omega), if_pos (by omega)]
 refine ⟨?_, by rw [hf, e6, e5, e4, e3, e2, e1]; simp only [rdShardR, rdShard, rdNumber, rdEnt, rdBallot, rdOld, rdIs, rdReco, rdConf, headR] <;> rfl⟩
 unfold Msg.read Msg.recOf Msg.entOf Msg.confOf
 rw [if_neg (by omega), if_neg (by omega), if_neg (by omega), hf, e5, e4, e3, e2, e1]
 simp only [rdShardR, rdShard, rdNumber, rdEnt, rdBallot, rdOld, rdIs, rdReco, rdConf, headR] <;> rfl
set_option maxHeartbeats 4000000 in
theorem read7_8z {t : List UInt8} (hk : Msg.k t = 8) (ho : (Msg.stOld t).2 = 0) : (fieldsR (headR t)).m = Msg.read Ent.vd t ∧ (fieldsR (headR t)).s = (Msg.stText t).1 := by
 have e1 : Msg.stShard t = ((Msg.stT t).1, 0) := by unfold Msg.stShard Msg.optNum; rw [decide_eq_false (by omega)]; rfl
 have e2 : Msg.stNumber t = ((Msg.stShard t).1, 0) := by unfold Msg.stNumber Msg.optNum; rw [decide_eq_false (by omega)]; rfl
 have e3 : Msg.stBallot t = (Msg.stNumber t).1.num 1099511627776 := by unfold Msg.stBallot Msg.optNum; rw [decide_eq_true (by omega)]; rfl
 have e4 : Msg.stOld t = (Msg.stBallot t).1.num 1099511627776 := by unfold Msg.stOld Msg.optNum; rw [decide_eq_true (by omega)]; rfl
 have e5 : Msg.stIs t = ((Msg.stOld t).1, false) := by unfold Msg.stIs Msg.optBool; rw [decide_eq_false (by omega)]; rfl
 have e6 : Msg.stText t = ((Msg.stIs t).1, []) := by unfold Msg.stText Msg.optText; rw [decide_eq_false (by omega)]; rfl
 have hov : (rdOld (rdBallot (headR t))).m.old = (((Msg.stOld t).2 : Nat) : Int) := by rw [e4, e3, e2, e1]; simp only [rdShardR, rdShard, rdNumber, rdEnt, rdBallot, rdOld, rdIs, rdReco, rdConf, headR]
 have hK : (headR t).m.kind = ((Msg.k t : Nat) : Int) := rfl
 have hf : fieldsR (headR t) = rdOld (rdBallot (headR t)) := by unfold fieldsR; rw [if_neg (by omega), if_neg (by omega), if_neg (by omega), if_neg (by omega), if_neg (by omega), if_pos (by omega), if_pos (by omega)]
 refine ⟨?_, by rw [hf, e6, e5, e4, e3, e2, e1]; simp only [rdShardR, rdShard, rdNumber, rdEnt, rdBallot, rdOld, rdIs, rdReco, rdConf, headR] <;> rfl⟩
 unfold Msg.read Msg.recOf Msg.entOf Msg.confOf
 rw [if_neg (by omega), if_neg (by omega), if_neg (by omega), hf, e5, e4, e3, e2, e1]
 simp only [rdShardR, rdShard, rdNumber, rdEnt, rdBallot, rdOld, rdIs, rdReco, rdConf, headR] <;> rfl
set_option maxHeartbeats 4000000 in
theorem read7_8n {t : List UInt8} (hk : Msg.k t = 8) (ho : (Msg.stOld t).2 ≠ 0) : (fieldsR (headR t)).m = Msg.read Ent.vd t ∧ (fieldsR (headR t)).s = (Msg.stText t).1 := by
 have e1 : Msg.stShard t = ((Msg.stT t).1, 0) := by unfold Msg.stShard Msg.optNum; rw [decide_eq_false (by omega)]; rfl
 have e2 : Msg.stNumber t = ((Msg.stShard t).1, 0) := by unfold Msg.stNumber Msg.optNum; rw [decide_eq_false (by omega)]; rfl
 have e3 : Msg.stBallot t = (Msg.stNumber t).1.num 1099511627776 := by unfold Msg.stBallot Msg.optNum; rw [decide_eq_true (by omega)]; rfl
 have e4 : Msg.stOld t = (Msg.stBallot t).1.num 1099511627776 := by unfold Msg.stOld Msg.optNum; rw [decide_eq_true (by omega)]; rfl
 have e5 : Msg.stIs t = ((Msg.stOld t).1, false) := by unfold Msg.stIs Msg.optBool; rw [decide_eq_false (by omega)]; rfl
 have e6 : Msg.stText t = (Msg.stIs t).1.text 65536 := by unfold Msg.stText Msg.optText; rw [decide_eq_true (by omega)]; rfl
 have hov : (rdOld (rdBallot (headR t))).m.old = (((Msg.stOld t).2 : Nat) : Int) := by rw [e4, e3, e2, e1]; simp only [rdShardR, rdShard, rdNumber, rdEnt, rdBallot, rdOld, rdIs, rdReco, rdConf, headR]
 have hK : (headR t).m.kind = ((Msg.k t : Nat) : Int) := rfl
 have hf : fieldsR (headR t) = rdConf (rdOld (rdBallot (headR t))) := by unfold fieldsR; rw [if_neg (by omega), if_neg (by omega), if_neg (by omega), if_neg (by omega), if_neg (by omega), if_pos (by omega), if_neg (by omega)]
 refine ⟨?_, by rw [hf, e6, e5, e4, e3, e2, e1]; simp only [rdShardR, rdShard, rdNumber, rdEnt, rdBallot, rdOld, rdIs, rdReco, rdConf, headR] <;> rfl⟩
 unfold Msg.read Msg.recOf Msg.entOf Msg.confOf
 rw [if_neg (by omega), if_neg (by omega), if_pos (by omega), ← dec6_get, hf, e6, e5, e4, e3, e2, e1]
 simp only [rdShardR, rdShard, rdNumber, rdEnt, rdBallot, rdOld, rdIs, rdReco, rdConf, headR] <;> rfl
set_option maxHeartbeats 4000000 in
theorem read7_9 {t : List UInt8} (hk : Msg.k t = 9) : (fieldsR (headR t)).m = Msg.read Ent.vd t ∧ (fieldsR (headR t)).s = (Msg.stText t).1 := by
 have e1 : Msg.stShard t = ((Msg.stT t).1, 0) := by unfold Msg.stShard Msg.optNum; rw [decide_eq_false (by omega)]; rfl
 have e2 : Msg.stNumber t = ((Msg.stShard t).1, 0) := by unfold Msg.stNumber Msg.optNum; rw [decide_eq_false (by omega)]; rfl
 have e3 : Msg.stBallot t = (Msg.stNumber t).1.num 1099511627776 := by unfold Msg.stBallot Msg.optNum; rw [decide_eq_true (by omega)]; rfl
 have e4 : Msg.stOld t = ((Msg.stBallot t).1, 0) := by unfold Msg.stOld Msg.optNum; rw [decide_eq_false (by omega)]; rfl
 have e5 : Msg.stIs t = ((Msg.stOld t).1, false) := by unfold Msg.stIs Msg.optBool; rw [decide_eq_false (by omega)]; rfl
 have e6 : Msg.stText t = (Msg.stIs t).1.text 65536 := by unfold Msg.stText Msg.optText; rw [decide_eq_true (by omega)]; rfl
 have hK : (headR t).m.kind = ((Msg.k t : Nat) : Int) := rfl
 have hf : fieldsR (headR t) = rdConf (rdBallot (headR t)) := by unfold fieldsR; rw [if_neg (by omega), if_neg (by omega), if_neg (by omega), if_neg (by omega), if_neg (by omega), if_neg (by omega), if_pos (by omega)]
 refine ⟨?_, by rw [hf, e6, e5, e4, e3, e2, e1]; simp only [rdShardR, rdShard, rdNumber, rdEnt, rdBallot, rdOld, rdIs, rdReco, rdConf, headR] <;> rfl⟩
 unfold Msg.read Msg.recOf Msg.entOf Msg.confOf
 rw [if_neg (by omega), if_neg (by omega), if_pos (by omega), ← dec6_get, hf, e6, e5, e4, e3, e2, e1]
 simp only [rdShardR, rdShard, rdNumber, rdEnt, rdBallot, rdOld, rdIs, rdReco, rdConf, headR] <;> rfl
set_option maxHeartbeats 4000000 in
theorem read7_10 {t : List UInt8} (hk : Msg.k t = 10) : (fieldsR (headR t)).m = Msg.read Ent.vd t ∧ (fieldsR (headR t)).s = (Msg.stText t).1 := by
 have e1 : Msg.stShard t = ((Msg.stT t).1, 0) := by unfold Msg.stShard Msg.optNum; rw [decide_eq_false (by omega)]; rfl
 have e2 : Msg.stNumber t = ((Msg.stShard t).1, 0) := by unfold Msg.stNumber Msg.optNum; rw [decide_eq_false (by omega)]; rfl
 have e3 : Msg.stBallot t = (Msg.stNumber t).1.num 1099511627776 := by unfold Msg.stBallot Msg.optNum; rw [decide_eq_true (by omega)]; rfl
 have e4 : Msg.stOld t = ((Msg.stBallot t).1, 0) := by unfold Msg.stOld Msg.optNum; rw [decide_eq_false (by omega)]; rfl
 have e5 : Msg.stIs t = (Msg.stOld t).1.bool := by unfold Msg.stIs Msg.optBool; rw [decide_eq_true (by omega)]; rfl
 have e6 : Msg.stText t = ((Msg.stIs t).1, []) := by unfold Msg.stText Msg.optText; rw [decide_eq_false (by omega)]; rfl
 have hK : (headR t).m.kind = ((Msg.k t : Nat) : Int) := rfl
 have hf : fieldsR (headR t) = rdIs (rdBallot (headR t)) := by unfold fieldsR; rw [if_neg (by omega), if_neg (by omega), if_neg (by omega), if_neg (by omega), if_neg (by omega), if_neg (by omega), if_neg (by omega), if_pos (by omega)]
 refine ⟨?_, by rw [hf, e6, e5, e4, e3, e2, e1]; simp only [rdShardR, rdShard, rdNumber, rdEnt, rdBallot, rdOld, rdIs, rdReco, rdConf, headR] <;> rfl⟩
 unfold Msg.read Msg.recOf Msg.entOf Msg.confOf
 rw [if_neg (by omega), if_neg (by omega), if_neg (by omega), hf, e5, e4, e3, e2, e1]
 simp only [rdShardR, rdShard, rdNumber, rdEnt, rdBallot, rdOld, rdIs, rdReco, rdConf, headR] <;> rfl
set_option maxHeartbeats 4000000 in
theorem read7_no {t : List UInt8} (z1 : Msg.k t ≠ 1) (z2 : Msg.k t ≠ 2) (z3 : Msg.k t ≠ 3) (z4 : Msg.k t ≠ 4) (z6 : Msg.k t ≠ 6) (z7 : Msg.k t ≠ 7) (z8 : Msg.k t ≠ 8) (z9 : Msg.k t ≠ 9) (z10 : Msg.k t ≠ 10) : (fieldsR (headR t)).m = Msg.read Ent.vd t ∧ (fieldsR (headR t)).s = (Msg.stText t).1 := by
 have e1 : Msg.stShard t = ((Msg.stT t).1, 0) := by unfold Msg.stShard Msg.optNum; rw [decide_eq_false (by omega)]; rfl
 have e2 : Msg.stNumber t = ((Msg.stShard t).1, 0) := by unfold Msg.stNumber Msg.optNum; rw [decide_eq_false (by omega)]; rfl
 have e3 : Msg.stBallot t = ((Msg.stNumber t).1, 0) := by unfold Msg.stBallot Msg.optNum; rw [decide_eq_false (by omega)]; rfl
 have e4 : Msg.stOld t = ((Msg.stBallot t).1, 0) := by unfold Msg.stOld Msg.optNum; rw [decide_eq_false (by omega)]; rfl
 have e5 : Msg.stIs t = ((Msg.stOld t).1, false) := by unfold Msg.stIs Msg.optBool; rw [decide_eq_false (by omega)]; rfl
 have e6 : Msg.stText t = ((Msg.stIs t).1, []) := by unfold Msg.stText Msg.optText; rw [decide_eq_false (by omega)]; rfl
 have hK : (headR t).m.kind = ((Msg.k t : Nat) : Int) := rfl
 have hf : fieldsR (headR t) = headR t := by unfold fieldsR; rw [if_neg (by omega), if_neg (by omega), if_neg (by omega), if_neg (by omega), if_neg (by omega), if_neg (by omega), if_neg (by omega), if_neg (by omega)]
 refine ⟨?_, by rw [hf, e6, e5, e4, e3, e2, e1]; simp only [rdShardR, rdShard, rdNumber, rdEnt, rdBallot, rdOld, rdIs, rdReco, rdConf, headR] <;> rfl⟩
 unfold Msg.read Msg.recOf Msg.entOf Msg.confOf
 rw [if_neg (by omega), if_neg (by omega), if_neg (by omega), hf, e5, e4, e3, e2, e1]
 simp only [rdShardR, rdShard, rdNumber, rdEnt, rdBallot, rdOld, rdIs, rdReco, rdConf, headR] <;> rfl
theorem read7 (t : List UInt8) : (fieldsR (headR t)).m = Msg.read Ent.vd t ∧ (fieldsR (headR t)).s = (Msg.stText t).1 := by
 by_cases h1 : Msg.k t = 1
 · exact read7_1 h1
 by_cases h2 : Msg.k t = 2
 · exact read7_2 h2
 by_cases h3 : Msg.k t = 3
 · exact read7_3 h3
 by_cases h4 : Msg.k t = 4
 · exact read7_4 h4
 by_cases h6 : Msg.k t = 6
 · exact read7_6 h6
 by_cases h7 : Msg.k t = 7
 · exact read7_7 h7
 by_cases h8 : Msg.k t = 8
 · by_cases ho : (Msg.stOld t).2 = 0
   · exact read7_8z h8 ho
   · exact read7_8n h8 ho
 by_cases h9 : Msg.k t = 9
 · exact read7_9 h9
 by_cases h10 : Msg.k t = 10
 · exact read7_10 h10
 exact read7_no h1 h2 h3 h4 h6 h7 h8 h9 h10
end Go.Proofs.YtldfpklgbedgjaaGreat
