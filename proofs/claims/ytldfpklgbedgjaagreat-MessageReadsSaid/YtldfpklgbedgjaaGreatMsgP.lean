/-
 Merged: Layer 7, the program: the fields that a message has, read.
-/
import Derived.Laws.EntriesVeiled
import Derived.Test.YtldfpklgbedgjaaGreatMsgO
namespace Go.Proofs.YtldfpklgbedgjaaGreat
set_option linter.unusedSimpArgs false
set_option linter.unusedVariables false
set_option maxRecDepth 100000
open Go.RowKit
def stepIf (f : Int) (g : St7 → St7) (x : St7) : St7 := cond (hasBit (mask x.m) f) (g x) x
section
variable {w0 : World} {p M R MB E TX : Nat} {x : St7}
set_option maxHeartbeats 4000000 in
theorem read_rdShard (w : World) (h : DF w0 p M R MB E TX x w) : Calls Tryz.prog 92 #[.int .i64 1, .func (.func 95) #[] #[.pointer (some ⟨R, 0, none⟩), .pointer (some ⟨MB, 0, none⟩)], .pointer (some ⟨MB, 0, none⟩)] w fun e w' => e = .returned (.tuple #[]) ∧ DF w0 p M R MB E TX (stepIf 1 rdShard x) w' := by
 have HD := Lib.hid h
 obtain ⟨rt, et, sv, dv, hr⟩ := h
 have HR := Lib.hid hr
 have cM := cell_of_heap hr.cM 0
 simp only [List.getElem?_toArray, List.getElem?_cons_zero] at cM
 clear hr
 unfold stepIf
 cases hb : hasBit (mask x.m) 1 with
 | false =>
  have hbb : (bits .and .i64 (mask x.m) 1 != 0) = false := hb
  go_enter Tryz.func92, Tryz.ntmps92
  go_wp2_with (refine ldA (by rfl) _ rfl rfl HR.out.at_ ?_)
  refine (fieldsOf_flat x.m rt et sv dv _).mono ?_
  rintro e w1 ⟨rfl, hE1⟩
  go_wp2_with fail
  go_end0
  exact ⟨rfl, HD.out.ext hE1⟩
 | true =>
  have hbb : (bits .and .i64 (mask x.m) 1 != 0) = true := hb
  go_enter Tryz.func92, Tryz.ntmps92
  go_wp2_with (refine ldA (by rfl) _ rfl rfl HR.out.at_ ?_)
  refine (fieldsOf_flat x.m rt et sv dv _).mono ?_
  rintro e w1 ⟨rfl, hE1⟩
  go_wp2_with fail
  refine (take_rdShard w1 (HD.out.ext hE1)).mono ?_
  rintro e w2 ⟨rfl, hD2⟩
  go_wp2_with fail
  go_end0
  exact ⟨rfl, hD2⟩
set_option maxHeartbeats 4000000 in
theorem read_rdNumber (w : World) (h : DF w0 p M R MB E TX x w) : Calls Tryz.prog 92 #[.int .i64 2, .func (.func 96) #[] #[.pointer (some ⟨R, 0, none⟩), .pointer (some ⟨MB, 0, none⟩)], .pointer (some ⟨MB, 0, none⟩)] w fun e w' => e = .returned (.tuple #[]) ∧ DF w0 p M R MB E TX (stepIf 2 rdNumber x) w' := by
 have HD := Lib.hid h
 obtain ⟨rt, et, sv, dv, hr⟩ := h
 have HR := Lib.hid hr
 have cM := cell_of_heap hr.cM 0
 simp only [List.getElem?_toArray, List.getElem?_cons_zero] at cM
 clear hr
 unfold stepIf
 cases hb : hasBit (mask x.m) 2 with
 | false =>
  have hbb : (bits .and .i64 (mask x.m) 2 != 0) = false := hb
  go_enter Tryz.func92, Tryz.ntmps92
  go_wp2_with (refine ldA (by rfl) _ rfl rfl HR.out.at_ ?_)
  refine (fieldsOf_flat x.m rt et sv dv _).mono ?_
  rintro e w1 ⟨rfl, hE1⟩
  go_wp2_with fail
  go_end0
  exact ⟨rfl, HD.out.ext hE1⟩
 | true =>
  have hbb : (bits .and .i64 (mask x.m) 2 != 0) = true := hb
  go_enter Tryz.func92, Tryz.ntmps92
  go_wp2_with (refine ldA (by rfl) _ rfl rfl HR.out.at_ ?_)
  refine (fieldsOf_flat x.m rt et sv dv _).mono ?_
  rintro e w1 ⟨rfl, hE1⟩
  go_wp2_with fail
  refine (take_rdNumber w1 (HD.out.ext hE1)).mono ?_
  rintro e w2 ⟨rfl, hD2⟩
  go_wp2_with fail
  go_end0
  exact ⟨rfl, hD2⟩
set_option maxHeartbeats 4000000 in
theorem read_rdEnt (w : World) (h : DF w0 p M R MB E TX x w) : Calls Tryz.prog 92 #[.int .i64 4, .func (.func 97) #[] #[.pointer (some ⟨TX, 0, none⟩), .pointer (some ⟨MB, 0, none⟩), .pointer (some ⟨E, 0, none⟩)], .pointer (some ⟨MB, 0, none⟩)] w fun e w' => e = .returned (.tuple #[]) ∧ DF w0 p M R MB E TX (stepIf 4 rdEnt x) w' := by
 have HD := Lib.hid h
 obtain ⟨rt, et, sv, dv, hr⟩ := h
 have HR := Lib.hid hr
 have cM := cell_of_heap hr.cM 0
 simp only [List.getElem?_toArray, List.getElem?_cons_zero] at cM
 clear hr
 unfold stepIf
 cases hb : hasBit (mask x.m) 4 with
 | false =>
  have hbb : (bits .and .i64 (mask x.m) 4 != 0) = false := hb
  go_enter Tryz.func92, Tryz.ntmps92
  go_wp2_with (refine ldA (by rfl) _ rfl rfl HR.out.at_ ?_)
  refine (fieldsOf_flat x.m rt et sv dv _).mono ?_
  rintro e w1 ⟨rfl, hE1⟩
  go_wp2_with fail
  go_end0
  exact ⟨rfl, HD.out.ext hE1⟩
 | true =>
  have hbb : (bits .and .i64 (mask x.m) 4 != 0) = true := hb
  go_enter Tryz.func92, Tryz.ntmps92
  go_wp2_with (refine ldA (by rfl) _ rfl rfl HR.out.at_ ?_)
  refine (fieldsOf_flat x.m rt et sv dv _).mono ?_
  rintro e w1 ⟨rfl, hE1⟩
  go_wp2_with fail
  refine (take_rdEnt w1 (HD.out.ext hE1)).mono ?_
  rintro e w2 ⟨rfl, hD2⟩
  go_wp2_with fail
  go_end0
  exact ⟨rfl, hD2⟩
set_option maxHeartbeats 4000000 in
theorem read_rdBallot (w : World) (h : DF w0 p M R MB E TX x w) : Calls Tryz.prog 92 #[.int .i64 8, .func (.func 99) #[] #[.pointer (some ⟨R, 0, none⟩), .pointer (some ⟨MB, 0, none⟩)], .pointer (some ⟨MB, 0, none⟩)] w fun e w' => e = .returned (.tuple #[]) ∧ DF w0 p M R MB E TX (stepIf 8 rdBallot x) w' := by
 have HD := Lib.hid h
 obtain ⟨rt, et, sv, dv, hr⟩ := h
 have HR := Lib.hid hr
 have cM := cell_of_heap hr.cM 0
 simp only [List.getElem?_toArray, List.getElem?_cons_zero] at cM
 clear hr
 unfold stepIf
 cases hb : hasBit (mask x.m) 8 with
 | false =>
  have hbb : (bits .and .i64 (mask x.m) 8 != 0) = false := hb
  go_enter Tryz.func92, Tryz.ntmps92
  go_wp2_with (refine ldA (by rfl) _ rfl rfl HR.out.at_ ?_)
  refine (fieldsOf_flat x.m rt et sv dv _).mono ?_
  rintro e w1 ⟨rfl, hE1⟩
  go_wp2_with fail
  go_end0
  exact ⟨rfl, HD.out.ext hE1⟩
 | true =>
  have hbb : (bits .and .i64 (mask x.m) 8 != 0) = true := hb
  go_enter Tryz.func92, Tryz.ntmps92
  go_wp2_with (refine ldA (by rfl) _ rfl rfl HR.out.at_ ?_)
  refine (fieldsOf_flat x.m rt et sv dv _).mono ?_
  rintro e w1 ⟨rfl, hE1⟩
  go_wp2_with fail
  refine (take_rdBallot w1 (HD.out.ext hE1)).mono ?_
  rintro e w2 ⟨rfl, hD2⟩
  go_wp2_with fail
  go_end0
  exact ⟨rfl, hD2⟩
set_option maxHeartbeats 4000000 in
theorem read_rdOld (w : World) (h : DF w0 p M R MB E TX x w) : Calls Tryz.prog 92 #[.int .i64 16, .func (.func 100) #[] #[.pointer (some ⟨R, 0, none⟩), .pointer (some ⟨MB, 0, none⟩)], .pointer (some ⟨MB, 0, none⟩)] w fun e w' => e = .returned (.tuple #[]) ∧ DF w0 p M R MB E TX (stepIf 16 rdOld x) w' := by
 have HD := Lib.hid h
 obtain ⟨rt, et, sv, dv, hr⟩ := h
 have HR := Lib.hid hr
 have cM := cell_of_heap hr.cM 0
 simp only [List.getElem?_toArray, List.getElem?_cons_zero] at cM
 clear hr
 unfold stepIf
 cases hb : hasBit (mask x.m) 16 with
 | false =>
  have hbb : (bits .and .i64 (mask x.m) 16 != 0) = false := hb
  go_enter Tryz.func92, Tryz.ntmps92
  go_wp2_with (refine ldA (by rfl) _ rfl rfl HR.out.at_ ?_)
  refine (fieldsOf_flat x.m rt et sv dv _).mono ?_
  rintro e w1 ⟨rfl, hE1⟩
  go_wp2_with fail
  go_end0
  exact ⟨rfl, HD.out.ext hE1⟩
 | true =>
  have hbb : (bits .and .i64 (mask x.m) 16 != 0) = true := hb
  go_enter Tryz.func92, Tryz.ntmps92
  go_wp2_with (refine ldA (by rfl) _ rfl rfl HR.out.at_ ?_)
  refine (fieldsOf_flat x.m rt et sv dv _).mono ?_
  rintro e w1 ⟨rfl, hE1⟩
  go_wp2_with fail
  refine (take_rdOld w1 (HD.out.ext hE1)).mono ?_
  rintro e w2 ⟨rfl, hD2⟩
  go_wp2_with fail
  go_end0
  exact ⟨rfl, hD2⟩
set_option maxHeartbeats 4000000 in
theorem read_rdIs (w : World) (h : DF w0 p M R MB E TX x w) : Calls Tryz.prog 92 #[.int .i64 32, .func (.func 101) #[] #[.pointer (some ⟨R, 0, none⟩), .pointer (some ⟨MB, 0, none⟩)], .pointer (some ⟨MB, 0, none⟩)] w fun e w' => e = .returned (.tuple #[]) ∧ DF w0 p M R MB E TX (stepIf 32 rdIs x) w' := by
 have HD := Lib.hid h
 obtain ⟨rt, et, sv, dv, hr⟩ := h
 have HR := Lib.hid hr
 have cM := cell_of_heap hr.cM 0
 simp only [List.getElem?_toArray, List.getElem?_cons_zero] at cM
 clear hr
 unfold stepIf
 cases hb : hasBit (mask x.m) 32 with
 | false =>
  have hbb : (bits .and .i64 (mask x.m) 32 != 0) = false := hb
  go_enter Tryz.func92, Tryz.ntmps92
  go_wp2_with (refine ldA (by rfl) _ rfl rfl HR.out.at_ ?_)
  refine (fieldsOf_flat x.m rt et sv dv _).mono ?_
  rintro e w1 ⟨rfl, hE1⟩
  go_wp2_with fail
  go_end0
  exact ⟨rfl, HD.out.ext hE1⟩
 | true =>
  have hbb : (bits .and .i64 (mask x.m) 32 != 0) = true := hb
  go_enter Tryz.func92, Tryz.ntmps92
  go_wp2_with (refine ldA (by rfl) _ rfl rfl HR.out.at_ ?_)
  refine (fieldsOf_flat x.m rt et sv dv _).mono ?_
  rintro e w1 ⟨rfl, hE1⟩
  go_wp2_with fail
  refine (take_rdIs w1 (HD.out.ext hE1)).mono ?_
  rintro e w2 ⟨rfl, hD2⟩
  go_wp2_with fail
  go_end0
  exact ⟨rfl, hD2⟩
set_option maxHeartbeats 4000000 in
theorem read_rdReco (w : World) (h : DF w0 p M R MB E TX x w) : Calls Tryz.prog 92 #[.int .i64 64, .func (.func 103) #[] #[.pointer (some ⟨TX, 0, none⟩), .pointer (some ⟨MB, 0, none⟩), .pointer (some ⟨E, 0, none⟩)], .pointer (some ⟨MB, 0, none⟩)] w fun e w' => e = .returned (.tuple #[]) ∧ DF w0 p M R MB E TX (stepIf 64 rdReco x) w' := by
 have HD := Lib.hid h
 obtain ⟨rt, et, sv, dv, hr⟩ := h
 have HR := Lib.hid hr
 have cM := cell_of_heap hr.cM 0
 simp only [List.getElem?_toArray, List.getElem?_cons_zero] at cM
 clear hr
 unfold stepIf
 cases hb : hasBit (mask x.m) 64 with
 | false =>
  have hbb : (bits .and .i64 (mask x.m) 64 != 0) = false := hb
  go_enter Tryz.func92, Tryz.ntmps92
  go_wp2_with (refine ldA (by rfl) _ rfl rfl HR.out.at_ ?_)
  refine (fieldsOf_flat x.m rt et sv dv _).mono ?_
  rintro e w1 ⟨rfl, hE1⟩
  go_wp2_with fail
  go_end0
  exact ⟨rfl, HD.out.ext hE1⟩
 | true =>
  have hbb : (bits .and .i64 (mask x.m) 64 != 0) = true := hb
  go_enter Tryz.func92, Tryz.ntmps92
  go_wp2_with (refine ldA (by rfl) _ rfl rfl HR.out.at_ ?_)
  refine (fieldsOf_flat x.m rt et sv dv _).mono ?_
  rintro e w1 ⟨rfl, hE1⟩
  go_wp2_with fail
  refine (take_rdReco w1 (HD.out.ext hE1)).mono ?_
  rintro e w2 ⟨rfl, hD2⟩
  go_wp2_with fail
  go_end0
  exact ⟨rfl, hD2⟩
set_option maxHeartbeats 4000000 in
theorem read_rdConf (w : World) (h : DF w0 p M R MB E TX x w) : Calls Tryz.prog 92 #[.int .i64 128, .func (.func 105) #[] #[.pointer (some ⟨TX, 0, none⟩), .pointer (some ⟨MB, 0, none⟩), .pointer (some ⟨E, 0, none⟩)], .pointer (some ⟨MB, 0, none⟩)] w fun e w' => e = .returned (.tuple #[]) ∧ DF w0 p M R MB E TX (stepIf 128 rdConf x) w' := by
 have HD := Lib.hid h
 obtain ⟨rt, et, sv, dv, hr⟩ := h
 have HR := Lib.hid hr
 have cM := cell_of_heap hr.cM 0
 simp only [List.getElem?_toArray, List.getElem?_cons_zero] at cM
 clear hr
 unfold stepIf
 cases hb : hasBit (mask x.m) 128 with
 | false =>
  have hbb : (bits .and .i64 (mask x.m) 128 != 0) = false := hb
  go_enter Tryz.func92, Tryz.ntmps92
  go_wp2_with (refine ldA (by rfl) _ rfl rfl HR.out.at_ ?_)
  refine (fieldsOf_flat x.m rt et sv dv _).mono ?_
  rintro e w1 ⟨rfl, hE1⟩
  go_wp2_with fail
  go_end0
  exact ⟨rfl, HD.out.ext hE1⟩
 | true =>
  have hbb : (bits .and .i64 (mask x.m) 128 != 0) = true := hb
  go_enter Tryz.func92, Tryz.ntmps92
  go_wp2_with (refine ldA (by rfl) _ rfl rfl HR.out.at_ ?_)
  refine (fieldsOf_flat x.m rt et sv dv _).mono ?_
  rintro e w1 ⟨rfl, hE1⟩
  go_wp2_with fail
  refine (take_rdConf w1 (HD.out.ext hE1)).mono ?_
  rintro e w2 ⟨rfl, hD2⟩
  go_wp2_with fail
  go_end0
  exact ⟨rfl, hD2⟩
end
def rdAll (x : St7) : St7 := stepIf 128 rdConf (stepIf 64 rdReco (stepIf 32 rdIs (stepIf 16 rdOld (stepIf 8 rdBallot (stepIf 4 rdEnt (stepIf 2 rdNumber (stepIf 1 rdShard x)))))))
theorem heap_four (w : World) (x0 x1 x2 x3 : Obj) : ((((w.alloc x0).alloc x1).alloc x2).alloc x3).heap[w.heap.size]? = some x0 ∧ ((((w.alloc x0).alloc x1).alloc x2).alloc x3).heap[w.heap.size + 1]? = some x1 ∧ ((((w.alloc x0).alloc x1).alloc x2).alloc x3).heap[w.heap.size + 1 + 1]? = some x2 ∧ ((((w.alloc x0).alloc x1).alloc x2).alloc x3).heap[w.heap.size + 1 + 1 + 1]? = some x3 := by
 have s1 : (w.alloc x0).heap.size = w.heap.size + 1 := World.size_alloc _ _
 have s2 : ((w.alloc x0).alloc x1).heap.size = w.heap.size + 1 + 1 := by rw [World.size_alloc, s1]
 have s3 : (((w.alloc x0).alloc x1).alloc x2).heap.size = w.heap.size + 1 + 1 + 1 := by rw [World.size_alloc, s2]
 refine ⟨?_, ?_, ?_, ?_⟩
 · rw [Below.heap_alloc _ _ _ (by rw [s3]; omega), Below.heap_alloc _ _ _ (by rw [s2]; omega)]; exact (heap_two w x0 x1).1
 · rw [Below.heap_alloc _ _ _ (by rw [s3]; omega), Below.heap_alloc _ _ _ (by rw [s2]; omega)]; exact (heap_two w x0 x1).2
 · rw [Below.heap_alloc _ _ _ (by rw [s3]; omega)]; rw [← s2]; exact heap_alloc_new _ _
 · rw [← s3]; exact heap_alloc_new _ _
theorem allocF {ops : Array Oper} {rest : List Oper} {op : Oper} {a : Act} {w : World} {Q : Exit → Act → World → Prop} (hw : Region.wanted op (yielded ops a.tmps) = true) (ho : op.op = .alloc 144)
 (h : ∀ W b, Hid (W = w.alloc (.cells #[Value.nilFunc] 144)) → Hid (b = w.heap.size) → W.cell? ⟨b, 0, none⟩ = some Value.nilFunc → W.frozen? ⟨b, 0, none⟩ = false → wpList Tryz.prog ops Q rest (a.put op.dst (.pointer (some ⟨b, 0, none⟩))) W) : wpList Tryz.prog ops Q (op :: rest) a w :=
 BigFrame.wpList_want hw fun K hK => by
  have hr : (execOp a.eval op).run Tryz.prog w = .ok (.value (.pointer (some ⟨w.heap.size, 0, none⟩))) (w.alloc (.cells #[Value.nilFunc] 144)) := by simp [execOp, ho, go_sem]
  have hn := heap_alloc_new w (.cells #[Value.nilFunc] 144)
  unfold Oper.wp
  rw [hr]
  exact hK _ _ (h _ _ (Lib.hid rfl) (Lib.hid rfl) (cell_of_heap hn 0) (frozen_of_heap hn 0))
set_option maxHeartbeats 16000000 in
theorem readFields7_any (w0 w : World) (p M : Nat) (m : Msg.M) (s : Pack.St) (rt et sv dv : Value) (hrd : RD w p s) (hat : MsgAt 45 w M m rt et sv dv) (h3 : RowI w rt m.reco.tags) (h4 : RowI w et m.ent.cut) (h5 : RowI w sv m.conf.seqs) (h6 : RowRR w dv m.conf.shards) (hlow : Below w0.heap.size w0 w) (hp : w0.heap.size ≤ p) (hpM : p < M) :
 Calls Tryz.prog 47 #[.pointer (some ⟨p, 0, none⟩), .pointer (some ⟨M, 0, none⟩)] w fun e w' => e = .returned (.int .i64 (rdAll ⟨m, 0, s⟩).err) ∧ ∃ R MB E TX, DF w0 p M R MB E TX (rdAll ⟨m, 0, s⟩) w' := by
 obtain ⟨q1, q2, q3, q4⟩ := heap_four w (.cells #[.pointer (some ⟨p, 0, none⟩)] 81) (.cells #[.pointer (some ⟨M, 0, none⟩)] 85) (.cells #[.int .i64 0] 39) (.cells #[Value.nilFunc] 144)
 have hE4 : Ext w ((((w.alloc (.cells #[.pointer (some ⟨p, 0, none⟩)] 81)).alloc (.cells #[.pointer (some ⟨M, 0, none⟩)] 85)).alloc (.cells #[.int .i64 0] 39)).alloc (.cells #[Value.nilFunc] 144)) := (ext_two _ _ _).trans (ext_two _ _ _)
 have hMl := hat.lt
 have Q1 := Lib.hid q1
 have Q2 := Lib.hid q2
 have Q3 := Lib.hid q3
 have Q4 := Lib.hid q4
 have HE4 := Lib.hid hE4
 have HRD := Lib.hid hrd
 have HAT := Lib.hid hat
 have H3 := Lib.hid h3
 have H4 := Lib.hid h4
 have H5 := Lib.hid h5
 have H6 := Lib.hid h6
 have HLOW := Lib.hid hlow
 clear q1 q2 q3 q4 hE4 hrd hat h3 h4 h5 h6 hlow
 unfold rdAll
 go_enter Tryz.func47, Tryz.ntmps47
 go_wp2_with (refine allocF (by rfl) rfl ?_; intro W4 b4 hW4 hb4 c4 f4)
 have hb5 := hb4.out
 rw [World.size_alloc, World.size_alloc, World.size_alloc] at hb5
 have HW4 := hW4.out
 rw [← HW4] at Q1 Q2 Q3 Q4 HE4
 clear HW4 hW4 hb4 c4 f4
 subst hb5
 have hB := butSet W4 (w.heap.size + 1 + 1 + 1) 0 (.func (.func 93) #[] #[.pointer (some ⟨w.heap.size, 0, none⟩)])
 have l4 := (Array.getElem?_eq_some_iff.1 Q4.out).1
 have hS := heap_setCell Q4.out 0 (.func (.func 93) #[] #[.pointer (some ⟨w.heap.size, 0, none⟩)])
 have hE5 : Ext w (W4.setCell ⟨w.heap.size + 1 + 1 + 1, 0, none⟩ (.func (.func 93) #[] #[.pointer (some ⟨w.heap.size, 0, none⟩)])) := Below.trans (B := w.heap.size) HE4.out (hB.below (by omega) (by omega))
 have D0 := Lib.hid (show DF w0 p M w.heap.size (w.heap.size + 1) (w.heap.size + 1 + 1) (w.heap.size + 1 + 1 + 1) ⟨m, 0, s⟩ _ from ⟨rt, et, sv, dv, HRD.out.ext hE5, HAT.out.ext hE5, H3.out.ext hE5, H4.out.ext hE5, H5.out.ext hE5, H6.out.ext hE5, (hB.block _ (by omega) (by omega)).trans Q1.out, (hB.block _ (by omega) (by omega)).trans Q2.out, (hB.block _ (by omega) (by omega)).trans Q3.out, hS, HLOW.out.trans (Below.mono hE5 (by omega)), hp, hpM, hMl, by omega, by omega, by omega⟩)
 clear hB hS hE5 Q1 Q2 Q3 Q4 HE4 HRD HAT H3 H4 H5 H6 l4
 refine (read_rdShard _ D0.out).mono ?_
 rintro e w1 ⟨rfl, hd1⟩
 have D1 := Lib.hid hd1
 clear hd1 D0
 go_wp2_with fail
 refine (read_rdNumber _ D1.out).mono ?_
 rintro e w2 ⟨rfl, hd2⟩
 have D2 := Lib.hid hd2
 clear hd2 D1
 go_wp2_with fail
 refine (read_rdEnt _ D2.out).mono ?_
 rintro e w3 ⟨rfl, hd3⟩
 have D3 := Lib.hid hd3
 clear hd3 D2
 go_wp2_with fail
 refine (read_rdBallot _ D3.out).mono ?_
 rintro e w4 ⟨rfl, hd4⟩
 have D4 := Lib.hid hd4
 clear hd4 D3
 go_wp2_with fail
 refine (read_rdOld _ D4.out).mono ?_
 rintro e w5 ⟨rfl, hd5⟩
 have D5 := Lib.hid hd5
 clear hd5 D4
 go_wp2_with fail
 refine (read_rdIs _ D5.out).mono ?_
 rintro e w6 ⟨rfl, hd6⟩
 have D6 := Lib.hid hd6
 clear hd6 D5
 go_wp2_with fail
 refine (read_rdReco _ D6.out).mono ?_
 rintro e w7 ⟨rfl, hd7⟩
 have D7 := Lib.hid hd7
 clear hd7 D6
 go_wp2_with fail
 refine (read_rdConf _ D7.out).mono ?_
 rintro e w8 ⟨rfl, hd8⟩
 have D8 := Lib.hid hd8
 clear hd8 D7
 generalize hX : stepIf 128 rdConf _ = X at D8
 have HX := Lib.hid hX
 obtain ⟨rt8, et8, sv8, dv8, h8⟩ := D8.out
 have cE := cell_of_heap h8.cE 0
 have fE := frozen_of_heap h8.cE 0
 simp only [List.getElem?_toArray, List.getElem?_cons_zero] at cE
 have DE := Lib.hid (D8.out.errs X.err).1
 have cE2 := cell_of_heap (heap_setCell h8.cE 0 (.int .i64 X.err)) 0
 clear h8 hX
 go_wp2_with fail
 exact bodyPost_ret (v := .int .i64 X.err) (by simp [results, Tryz.results47, go_sem, cE, cE2]) rfl ⟨by rw [HX.out], _, _, _, _, by rw [HX.out]; exact DE.out⟩
end Go.Proofs.YtldfpklgbedgjaaGreat
