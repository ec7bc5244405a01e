/-
 Merged: Layer 7, the program: what each field's closure reads.
-/
import Derived.Test.YtldfpklgbedgjaaGreatBrEnt
import Derived.Test.YtldfpklgbedgjaaGreatBrRec
import Derived.Test.YtldfpklgbedgjaaGreatBrTerm
import Derived.Test.YtldfpklgbedgjaaGreatMsgN
namespace Go.Proofs.YtldfpklgbedgjaaGreat
set_option linter.unusedSimpArgs false
set_option linter.unusedVariables false
set_option maxRecDepth 100000
open Go.RowKit
theorem Yield.stores {P : Program} {o : Oper} {ev : Operand → Value} {w : World} {R : Value → World → Prop} {t : TypeId} {x y : Operand} {u v : Value} {w' : World} (ho : o.op = .store t x y) (hx : ev x = u) (hy : ev y = v) (hr : (Instr.storeAt t u v).run P w = .ok () w') (h : R undef w') : Yield P o ev w R := by
 refine Yield.skip (w' := w') ?_ h
 unfold execOp
 simp only [ho, hx, hy]
 rw [Sem.run_bind, hr]
 rfl
def stg (a b c d : World → Prop) : Nat → World → Prop
 | 0 => a
 | 1 => b
 | 2 => c
 | _ => d
def LB (MB : Nat) (a b : World) : Prop := Ext a b ∧ b.heap[MB]? = a.heap[MB]?
def KB (MB : Nat) (a b : World) : Prop := Keeps a b ∧ b.heap[MB]? = a.heap[MB]?
theorem LB.refl (MB : Nat) (a : World) : LB MB a a := ⟨Ext.refl _, rfl⟩
theorem LB.k {MB : Nat} {a b : World} (h : LB MB a b) : KB MB a b := ⟨Keeps.ofExt h.1, h.2⟩
theorem KB.trans {MB : Nat} {a b c : World} (h : KB MB a b) (k : KB MB b c) : KB MB a c := ⟨h.1.trans k.1, k.2.trans h.2⟩
theorem stg.keep {w0 : World} {p M R MB E TX : Nat} {xa xb xc xd : St7} (k : Nat) (a b : World) (h : LB MB a b) (hs : stg (DF w0 p M R MB E TX xa) (DF w0 p M R MB E TX xb) (DF w0 p M R MB E TX xc) (DF w0 p M R MB E TX xd) k a) : stg (DF w0 p M R MB E TX xa) (DF w0 p M R MB E TX xb) (DF w0 p M R MB E TX xc) (DF w0 p M R MB E TX xd) k b := by
 match k, hs with
 | 0, hs => exact DF.ext hs h.1
 | 1, hs => exact DF.ext hs h.1
 | 2, hs => exact DF.ext hs h.1
 | _ + 3, hs => exact DF.ext hs h.1
def rdShard (x : St7) : St7 := ⟨{ x.m with shard := ((x.s.num 7).2 : Nat) }, x.err, (x.s.num 7).1⟩
def rdNumber (x : St7) : St7 := ⟨{ x.m with number := ((x.s.num 1099511627776).2 : Nat) }, x.err, (x.s.num 1099511627776).1⟩
def rdBallot (x : St7) : St7 := ⟨{ x.m with ballot := ((x.s.num 1099511627776).2 : Nat) }, x.err, (x.s.num 1099511627776).1⟩
def rdOld (x : St7) : St7 := ⟨{ x.m with old := ((x.s.num 1099511627776).2 : Nat) }, x.err, (x.s.num 1099511627776).1⟩
def rdIs (x : St7) : St7 := ⟨{ x.m with is := x.s.bool.2 }, x.err, x.s.bool.1⟩
def rdEnt (x : St7) : St7 := ⟨{ x.m with ent := Ent.entOf (Ent.dec Ent.vd (x.s.text 65536).2) }, Ent.errOf (Crc.cutOf (x.s.text 65536).2) (Ent.dec Ent.vd (x.s.text 65536).2), (x.s.text 65536).1⟩
def rdReco (x : St7) : St7 := ⟨{ x.m with reco := decRec4 (Crc.cutOf (x.s.text 65536).2) }, decErr4 (Crc.cutOf (x.s.text 65536).2), (x.s.text 65536).1⟩
def rdConf (x : St7) : St7 := ⟨{ x.m with conf := Term.confOf (Term.dec (x.s.text 65536).2) }, Term.errOf (Term.dec (x.s.text 65536).2), (x.s.text 65536).1⟩
section
variable {w0 : World} {p M R MB E TX : Nat} {x : St7}
theorem text_len (s : Pack.St) (h : 0 ≤ (65536 : Int)) : (s.text 65536).2.length ≤ 65536 := by
 have hn := numMost s 65536 h
 unfold Pack.St.text
 simp only
 split
 · exact Nat.zero_le _
 · rw [List.length_take]
   omega
set_option maxHeartbeats 4000000 in
theorem takeText7 (w : World) (h : DF w0 p M R MB E TX x w) : Calls Tryz.prog 93 #[.pointer (some ⟨R, 0, none⟩)] w fun e w' => ∃ u, e = .returned u ∧ BO w' u (x.s.text 65536).2 ∧ DF w0 p M R MB E TX ⟨x.m, x.err, (x.s.text 65536).1⟩ w' ∧ KB MB w w' := by
 have HD := Lib.hid h
 obtain ⟨rt, et, sv, dv, hr⟩ := h
 have cR := cell_of_heap hr.cR 0
 simp only [List.getElem?_toArray, List.getElem?_cons_zero] at cR
 clear hr
 obtain ⟨T, hT⟩ : ∃ T, x.s.text 65536 = T := ⟨_, rfl⟩
 have HL := Lib.hid (show T.2.length ≤ 65536 by rw [← hT]; exact text_len _ (by omega))
 rw [hT]
 have HT := Lib.hid hT
 clear hT
 go_enter Tryz.func93, Tryz.ntmps93
 go_wp2_with fail
 refine (text_any p x.s 65536 _ HD.out.rd).mono ?_
 rw [HT.out]
 rintro e w1 ⟨rfl, hB, hr⟩
 have hD1 := HD.out.turn hB hr
 have hm1 := HD.out.mbP hB
 have hcv := runConv w1 T.2
 have HBO := Lib.hid (BO.conv w1 T.2 (by unfold maxLen; have := HL.out; omega))
 have hE := extConv w1 5 ⟨T.2.toArray⟩
 have HF := Lib.hid (show DF w0 p M R MB E TX ⟨x.m, x.err, T.1⟩ (Lib.bytesWorld w1 5 ⟨T.2.toArray⟩) ∧ KB MB w (Lib.bytesWorld w1 5 ⟨T.2.toArray⟩) from ⟨hD1.1.ext hE, KB.trans ⟨hD1.2, hm1⟩ ⟨Keeps.ofExt hE, hD1.1.mbE hE⟩⟩)
 clear hD1 hm1 hE
 go_wp2_with fail
 go_ret
 exact ⟨_, rfl, HBO.out, HF.out.1, HF.out.2⟩
set_option maxHeartbeats 4000000 in
theorem take_rdShard (w : World) (h : DF w0 p M R MB E TX x w) : Calls Tryz.prog 95 #[.pointer (some ⟨R, 0, none⟩), .pointer (some ⟨MB, 0, none⟩)] w fun e w' => e = .returned (.tuple #[]) ∧ DF w0 p M R MB E TX (rdShard x) w' := by
 have HD := Lib.hid h
 have HM := Lib.hid (show ∀ wy, KB MB w wy → (Instr.loadAt 85 (.pointer (some ⟨MB, 0, none⟩))).run Tryz.prog wy = .ok (.pointer (some ⟨M, 0, none⟩)) wy from fun wy hk => h.ldM' hk.2)
 clear h
 go_enter Tryz.func95, Tryz.ntmps95
 go_wp2_with fail
 have h := HD.out
 refine wp_region_marked (by kernel_rfl) (LB MB) (KB MB) (fun iop v w => match iop with
  | 0 => v = .pointer (some ⟨M, 0, none⟩)
  | 1 => v = .pointer (some ⟨p, 0, none⟩)
  | 2 => v = .int .i64 ((x.s.num 7).2 : Nat)
  | 3 => v = .pointer (some ⟨M, 0, none⟩)
  | 4 => v = .pointer (some ⟨M, 4, none⟩)
  | _ => v = undef
  ) [2, 5] (stg (DF w0 p M R MB E TX x) (DF w0 p M R MB E TX ⟨x.m, x.err, (x.s.num 7).1⟩) (DF w0 p M R MB E TX (rdShard x)) (DF w0 p M R MB E TX (rdShard x))) (by kernel_rfl) (fun _ _ _ h k => KB.trans h k) (fun a => LB.refl MB a) (fun _ _ h => LB.k h) (fun k a b h hs => stg.keep k a b h hs) (⟨Ext.drew _, rfl⟩) h ?_ ?_ ?_ ?_
 · intro iop v wa wb hF hL
   iterate 5 (rcases iop with _ | iop; exact hF)
   exact hF
 · refine Obls2.cons ?_ (Obls2.cons ?_ (Obls2.cons ?_ (Obls2.cons ?_ (Obls2.cons ?_ (Obls2.cons ?_ (Obls2.nil))))))
   · intro ev wy ls hp hl hS hbh hk hd
     rw [if_neg (by decide)]
     clear hS hbh
     have e1 : ev (.tmp 1) = .pointer (some ⟨MB, 0, none⟩) := hk 1 (by decide)
     clear hk hd
     exact Yield.load rfl e1 (HM.out wy hl) ⟨LB.refl _ _, rfl⟩
   · intro ev wy ls hp hl hS hbh hk hd
     rw [if_neg (by decide)]
     have hc2 : ls 2 = false := Bool.eq_false_iff.2 fun hq => absurd (hbh.closed 2 _ rfl (hq) 1 (by decide)) (by rw [hbh.notyet]; decide)
     have hc5 : ls 5 = false := Bool.eq_false_iff.2 fun hq => absurd (hbh.closed 5 _ rfl (hq) 1 (by decide)) (by rw [hbh.notyet]; decide)
     have hst := hS
     rw [show stage [2, 5] ls = 0 from by simp [stage, List.filter, hc2, hc5]] at hst
     clear hc2 hc5 hS hbh
     have e0 : ev (.tmp 0) = .pointer (some ⟨R, 0, none⟩) := hk 0 (by decide)
     clear hk hd
     exact Yield.load rfl e0 (DF.ldR hst) ⟨LB.refl _ _, rfl⟩
   · intro ev wy ls hp hl hS hbh hk hd
     rw [if_pos (by decide)]
     have hc2 : ls 2 = false := hbh.notyet
     have hc5 : ls 5 = false := Bool.eq_false_iff.2 fun hq => absurd (hbh.closed 5 _ rfl (hq) 2 (by decide)) (by rw [hbh.notyet]; decide)
     have hst := hS
     rw [show stage [2, 5] ls = 0 from by simp [stage, List.filter, hc2, hc5]] at hst
     have hup : stage [2, 5] (upd ls 2) = 1 := by simp [stage, List.filter, upd, hc2, hc5]
     clear hc2 hc5 hS hbh
     have e3 : ev (.tmp 3) = .pointer (some ⟨p, 0, none⟩) := hk 3 (by decide)
     clear hk hd
     refine Yield.call rfl hp Tryz.func46 rfl (by kernel_rfl) ?_
     simp only [List.map_toArray, List.map_cons, List.map_nil, hp.const, e3]
     exact (num_any p x.s 7 wy (DF.rd hst)).mono fun e w' ⟨he, hB, hr⟩ => ⟨_, he, ⟨(DF.turn hst hB hr).2, DF.mbP hst hB⟩, rfl, by rw [hup]; exact (DF.turn hst hB hr).1⟩
   · intro ev wy ls hp hl hS hbh hk hd
     rw [if_neg (by decide)]
     have hc2 : ls 2 = true := hbh.ready 2 (by decide)
     have hc5 : ls 5 = false := Bool.eq_false_iff.2 fun hq => absurd (hbh.closed 4 _ rfl (hbh.closed 5 _ rfl (hq) 4 (by decide)) 3 (by decide)) (by rw [hbh.notyet]; decide)
     have hst := hS
     rw [show stage [2, 5] ls = 1 from by simp [stage, List.filter, hc2, hc5]] at hst
     clear hc2 hc5 hS hbh
     have e2 : ev (.tmp 2) = .pointer (some ⟨M, 0, none⟩) := hk 2 (by decide)
     clear hk hd
     exact Yield.op (v := .pointer (some ⟨M, 0, none⟩)) (w' := wy) (by simp [execOp, go_sem, e2]) ⟨(LB.refl _ _), rfl⟩
   · intro ev wy ls hp hl hS hbh hk hd
     rw [if_neg (by decide)]
     have hc2 : ls 2 = true := hbh.ready 2 (by decide)
     have hc5 : ls 5 = false := Bool.eq_false_iff.2 fun hq => absurd (hbh.closed 5 _ rfl (hq) 4 (by decide)) (by rw [hbh.notyet]; decide)
     have hst := hS
     rw [show stage [2, 5] ls = 1 from by simp [stage, List.filter, hc2, hc5]] at hst
     clear hc2 hc5 hS hbh
     have e5 : ev (.tmp 5) = .pointer (some ⟨M, 0, none⟩) := hk 5 (by decide)
     clear hk hd
     exact Yield.op (v := .pointer (some ⟨M, 4, none⟩)) (w' := wy) (by simp [execOp, go_sem, e5]) ⟨(LB.refl _ _), rfl⟩
   · intro ev wy ls hp hl hS hbh hk hd
     rw [if_pos (by decide)]
     have hc2 : ls 2 = true := hbh.ready 2 (by decide)
     have hc5 : ls 5 = false := hbh.notyet
     have hst := hS
     rw [show stage [2, 5] ls = 1 from by simp [stage, List.filter, hc2, hc5]] at hst
     have hup : stage [2, 5] (upd ls 5) = 2 := by simp [stage, List.filter, upd, hc2, hc5]
     clear hc2 hc5 hS hbh
     have e6 : ev (.tmp 6) = .pointer (some ⟨M, 4, none⟩) := hk 6 (by decide)
     have e4 : ev (.tmp 4) = .int .i64 ((x.s.num 7).2 : Nat) := hk 4 (by decide)
     clear hk hd
     obtain ⟨z1, z2, z3, z4⟩ := DF.st_shard hst ((x.s.num 7).2 : Nat)
     exact Yield.stores rfl e6 e4 z1 ⟨⟨z3, DF.mbM hst z4⟩, rfl, by rw [hup]; exact z2⟩
 · decide
 · intro vals wz hz hS hv
   have g2 : vals 0 = .pointer (some ⟨M, 0, none⟩) := hv 0 (by decide)
   have g3 : vals 1 = .pointer (some ⟨p, 0, none⟩) := hv 1 (by decide)
   have g4 : vals 2 = .int .i64 ((x.s.num 7).2 : Nat) := hv 2 (by decide)
   have g5 : vals 3 = .pointer (some ⟨M, 0, none⟩) := hv 3 (by decide)
   have g6 : vals 4 = .pointer (some ⟨M, 4, none⟩) := hv 4 (by decide)
   have gn5 : vals 5 = undef := hv 5 (by decide)
   clear hv
   simp only [putAll, Act.put, List.setIfInBounds_toArray, List.set_cons_zero, List.set_cons_succ, g2, g3, g4, g5, g6]
   clear g2
   clear g3
   clear g4
   clear g5
   clear g6
   clear gn5
   go_wp2_with fail
   go_end0
   exact ⟨rfl, hS⟩
set_option maxHeartbeats 4000000 in
theorem take_rdNumber (w : World) (h : DF w0 p M R MB E TX x w) : Calls Tryz.prog 96 #[.pointer (some ⟨R, 0, none⟩), .pointer (some ⟨MB, 0, none⟩)] w fun e w' => e = .returned (.tuple #[]) ∧ DF w0 p M R MB E TX (rdNumber x) w' := by
 have HD := Lib.hid h
 have HM := Lib.hid (show ∀ wy, KB MB w wy → (Instr.loadAt 85 (.pointer (some ⟨MB, 0, none⟩))).run Tryz.prog wy = .ok (.pointer (some ⟨M, 0, none⟩)) wy from fun wy hk => h.ldM' hk.2)
 clear h
 go_enter Tryz.func96, Tryz.ntmps96
 go_wp2_with fail
 have h := HD.out
 refine wp_region_marked (by kernel_rfl) (LB MB) (KB MB) (fun iop v w => match iop with
  | 0 => v = .pointer (some ⟨M, 0, none⟩)
  | 1 => v = .pointer (some ⟨p, 0, none⟩)
  | 2 => v = .int .i64 ((x.s.num 1099511627776).2 : Nat)
  | 3 => v = .pointer (some ⟨M, 0, none⟩)
  | 4 => v = .pointer (some ⟨M, 5, none⟩)
  | _ => v = undef
  ) [2, 5] (stg (DF w0 p M R MB E TX x) (DF w0 p M R MB E TX ⟨x.m, x.err, (x.s.num 1099511627776).1⟩) (DF w0 p M R MB E TX (rdNumber x)) (DF w0 p M R MB E TX (rdNumber x))) (by kernel_rfl) (fun _ _ _ h k => KB.trans h k) (fun a => LB.refl MB a) (fun _ _ h => LB.k h) (fun k a b h hs => stg.keep k a b h hs) (⟨Ext.drew _, rfl⟩) h ?_ ?_ ?_ ?_
 · intro iop v wa wb hF hL
   iterate 5 (rcases iop with _ | iop; exact hF)
   exact hF
 · refine Obls2.cons ?_ (Obls2.cons ?_ (Obls2.cons ?_ (Obls2.cons ?_ (Obls2.cons ?_ (Obls2.cons ?_ (Obls2.nil))))))
   · intro ev wy ls hp hl hS hbh hk hd
     rw [if_neg (by decide)]
     clear hS hbh
     have e1 : ev (.tmp 1) = .pointer (some ⟨MB, 0, none⟩) := hk 1 (by decide)
     clear hk hd
     exact Yield.load rfl e1 (HM.out wy hl) ⟨LB.refl _ _, rfl⟩
   · intro ev wy ls hp hl hS hbh hk hd
     rw [if_neg (by decide)]
     have hc2 : ls 2 = false := Bool.eq_false_iff.2 fun hq => absurd (hbh.closed 2 _ rfl (hq) 1 (by decide)) (by rw [hbh.notyet]; decide)
     have hc5 : ls 5 = false := Bool.eq_false_iff.2 fun hq => absurd (hbh.closed 5 _ rfl (hq) 1 (by decide)) (by rw [hbh.notyet]; decide)
     have hst := hS
     rw [show stage [2, 5] ls = 0 from by simp [stage, List.filter, hc2, hc5]] at hst
     clear hc2 hc5 hS hbh
     have e0 : ev (.tmp 0) = .pointer (some ⟨R, 0, none⟩) := hk 0 (by decide)
     clear hk hd
     exact Yield.load rfl e0 (DF.ldR hst) ⟨LB.refl _ _, rfl⟩
   · intro ev wy ls hp hl hS hbh hk hd
     rw [if_pos (by decide)]
     have hc2 : ls 2 = false := hbh.notyet
     have hc5 : ls 5 = false := Bool.eq_false_iff.2 fun hq => absurd (hbh.closed 5 _ rfl (hq) 2 (by decide)) (by rw [hbh.notyet]; decide)
     have hst := hS
     rw [show stage [2, 5] ls = 0 from by simp [stage, List.filter, hc2, hc5]] at hst
     have hup : stage [2, 5] (upd ls 2) = 1 := by simp [stage, List.filter, upd, hc2, hc5]
     clear hc2 hc5 hS hbh
     have e3 : ev (.tmp 3) = .pointer (some ⟨p, 0, none⟩) := hk 3 (by decide)
     clear hk hd
     refine Yield.call rfl hp Tryz.func46 rfl (by kernel_rfl) ?_
     simp only [List.map_toArray, List.map_cons, List.map_nil, hp.const, e3]
     exact (num_any p x.s 1099511627776 wy (DF.rd hst)).mono fun e w' ⟨he, hB, hr⟩ => ⟨_, he, ⟨(DF.turn hst hB hr).2, DF.mbP hst hB⟩, rfl, by rw [hup]; exact (DF.turn hst hB hr).1⟩
   · intro ev wy ls hp hl hS hbh hk hd
     rw [if_neg (by decide)]
     have hc2 : ls 2 = true := hbh.ready 2 (by decide)
     have hc5 : ls 5 = false := Bool.eq_false_iff.2 fun hq => absurd (hbh.closed 4 _ rfl (hbh.closed 5 _ rfl (hq) 4 (by decide)) 3 (by decide)) (by rw [hbh.notyet]; decide)
     have hst := hS
     rw [show stage [2, 5] ls = 1 from by simp [stage, List.filter, hc2, hc5]] at hst
     clear hc2 hc5 hS hbh
     have e2 : ev (.tmp 2) = .pointer (some ⟨M, 0, none⟩) := hk 2 (by decide)
     clear hk hd
     exact Yield.op (v := .pointer (some ⟨M, 0, none⟩)) (w' := wy) (by simp [execOp, go_sem, e2]) ⟨(LB.refl _ _), rfl⟩
   · intro ev wy ls hp hl hS hbh hk hd
     rw [if_neg (by decide)]
     have hc2 : ls 2 = true := hbh.ready 2 (by decide)
     have hc5 : ls 5 = false := Bool.eq_false_iff.2 fun hq => absurd (hbh.closed 5 _ rfl (hq) 4 (by decide)) (by rw [hbh.notyet]; decide)
     have hst := hS
     rw [show stage [2, 5] ls = 1 from by simp [stage, List.filter, hc2, hc5]] at hst
     clear hc2 hc5 hS hbh
     have e5 : ev (.tmp 5) = .pointer (some ⟨M, 0, none⟩) := hk 5 (by decide)
     clear hk hd
     exact Yield.op (v := .pointer (some ⟨M, 5, none⟩)) (w' := wy) (by simp [execOp, go_sem, e5]) ⟨(LB.refl _ _), rfl⟩
   · intro ev wy ls hp hl hS hbh hk hd
     rw [if_pos (by decide)]
     have hc2 : ls 2 = true := hbh.ready 2 (by decide)
     have hc5 : ls 5 = false := hbh.notyet
     have hst := hS
     rw [show stage [2, 5] ls = 1 from by simp [stage, List.filter, hc2, hc5]] at hst
     have hup : stage [2, 5] (upd ls 5) = 2 := by simp [stage, List.filter, upd, hc2, hc5]
     clear hc2 hc5 hS hbh
     have e6 : ev (.tmp 6) = .pointer (some ⟨M, 5, none⟩) := hk 6 (by decide)
     have e4 : ev (.tmp 4) = .int .i64 ((x.s.num 1099511627776).2 : Nat) := hk 4 (by decide)
     clear hk hd
     obtain ⟨z1, z2, z3, z4⟩ := DF.st_number hst ((x.s.num 1099511627776).2 : Nat)
     exact Yield.stores rfl e6 e4 z1 ⟨⟨z3, DF.mbM hst z4⟩, rfl, by rw [hup]; exact z2⟩
 · decide
 · intro vals wz hz hS hv
   have g2 : vals 0 = .pointer (some ⟨M, 0, none⟩) := hv 0 (by decide)
   have g3 : vals 1 = .pointer (some ⟨p, 0, none⟩) := hv 1 (by decide)
   have g4 : vals 2 = .int .i64 ((x.s.num 1099511627776).2 : Nat) := hv 2 (by decide)
   have g5 : vals 3 = .pointer (some ⟨M, 0, none⟩) := hv 3 (by decide)
   have g6 : vals 4 = .pointer (some ⟨M, 5, none⟩) := hv 4 (by decide)
   have gn5 : vals 5 = undef := hv 5 (by decide)
   clear hv
   simp only [putAll, Act.put, List.setIfInBounds_toArray, List.set_cons_zero, List.set_cons_succ, g2, g3, g4, g5, g6]
   clear g2
   clear g3
   clear g4
   clear g5
   clear g6
   clear gn5
   go_wp2_with fail
   go_end0
   exact ⟨rfl, hS⟩
set_option maxHeartbeats 4000000 in
theorem take_rdBallot (w : World) (h : DF w0 p M R MB E TX x w) : Calls Tryz.prog 99 #[.pointer (some ⟨R, 0, none⟩), .pointer (some ⟨MB, 0, none⟩)] w fun e w' => e = .returned (.tuple #[]) ∧ DF w0 p M R MB E TX (rdBallot x) w' := by
 have HD := Lib.hid h
 have HM := Lib.hid (show ∀ wy, KB MB w wy → (Instr.loadAt 85 (.pointer (some ⟨MB, 0, none⟩))).run Tryz.prog wy = .ok (.pointer (some ⟨M, 0, none⟩)) wy from fun wy hk => h.ldM' hk.2)
 clear h
 go_enter Tryz.func99, Tryz.ntmps99
 go_wp2_with fail
 have h := HD.out
 refine wp_region_marked (by kernel_rfl) (LB MB) (KB MB) (fun iop v w => match iop with
  | 0 => v = .pointer (some ⟨M, 0, none⟩)
  | 1 => v = .pointer (some ⟨p, 0, none⟩)
  | 2 => v = .int .i64 ((x.s.num 1099511627776).2 : Nat)
  | 3 => v = .pointer (some ⟨M, 0, none⟩)
  | 4 => v = .pointer (some ⟨M, 17, none⟩)
  | _ => v = undef
  ) [2, 5] (stg (DF w0 p M R MB E TX x) (DF w0 p M R MB E TX ⟨x.m, x.err, (x.s.num 1099511627776).1⟩) (DF w0 p M R MB E TX (rdBallot x)) (DF w0 p M R MB E TX (rdBallot x))) (by kernel_rfl) (fun _ _ _ h k => KB.trans h k) (fun a => LB.refl MB a) (fun _ _ h => LB.k h) (fun k a b h hs => stg.keep k a b h hs) (⟨Ext.drew _, rfl⟩) h ?_ ?_ ?_ ?_
 · intro iop v wa wb hF hL
   iterate 5 (rcases iop with _ | iop; exact hF)
   exact hF
 · refine Obls2.cons ?_ (Obls2.cons ?_ (Obls2.cons ?_ (Obls2.cons ?_ (Obls2.cons ?_ (Obls2.cons ?_ (Obls2.nil))))))
   · intro ev wy ls hp hl hS hbh hk hd
     rw [if_neg (by decide)]
     clear hS hbh
     have e1 : ev (.tmp 1) = .pointer (some ⟨MB, 0, none⟩) := hk 1 (by decide)
     clear hk hd
     exact Yield.load rfl e1 (HM.out wy hl) ⟨LB.refl _ _, rfl⟩
   · intro ev wy ls hp hl hS hbh hk hd
     rw [if_neg (by decide)]
     have hc2 : ls 2 = false := Bool.eq_false_iff.2 fun hq => absurd (hbh.closed 2 _ rfl (hq) 1 (by decide)) (by rw [hbh.notyet]; decide)
     have hc5 : ls 5 = false := Bool.eq_false_iff.2 fun hq => absurd (hbh.closed 5 _ rfl (hq) 1 (by decide)) (by rw [hbh.notyet]; decide)
     have hst := hS
     rw [show stage [2, 5] ls = 0 from by simp [stage, List.filter, hc2, hc5]] at hst
     clear hc2 hc5 hS hbh
     have e0 : ev (.tmp 0) = .pointer (some ⟨R, 0, none⟩) := hk 0 (by decide)
     clear hk hd
     exact Yield.load rfl e0 (DF.ldR hst) ⟨LB.refl _ _, rfl⟩
   · intro ev wy ls hp hl hS hbh hk hd
     rw [if_pos (by decide)]
     have hc2 : ls 2 = false := hbh.notyet
     have hc5 : ls 5 = false := Bool.eq_false_iff.2 fun hq => absurd (hbh.closed 5 _ rfl (hq) 2 (by decide)) (by rw [hbh.notyet]; decide)
     have hst := hS
     rw [show stage [2, 5] ls = 0 from by simp [stage, List.filter, hc2, hc5]] at hst
     have hup : stage [2, 5] (upd ls 2) = 1 := by simp [stage, List.filter, upd, hc2, hc5]
     clear hc2 hc5 hS hbh
     have e3 : ev (.tmp 3) = .pointer (some ⟨p, 0, none⟩) := hk 3 (by decide)
     clear hk hd
     refine Yield.call rfl hp Tryz.func46 rfl (by kernel_rfl) ?_
     simp only [List.map_toArray, List.map_cons, List.map_nil, hp.const, e3]
     exact (num_any p x.s 1099511627776 wy (DF.rd hst)).mono fun e w' ⟨he, hB, hr⟩ => ⟨_, he, ⟨(DF.turn hst hB hr).2, DF.mbP hst hB⟩, rfl, by rw [hup]; exact (DF.turn hst hB hr).1⟩
   · intro ev wy ls hp hl hS hbh hk hd
     rw [if_neg (by decide)]
     have hc2 : ls 2 = true := hbh.ready 2 (by decide)
     have hc5 : ls 5 = false := Bool.eq_false_iff.2 fun hq => absurd (hbh.closed 4 _ rfl (hbh.closed 5 _ rfl (hq) 4 (by decide)) 3 (by decide)) (by rw [hbh.notyet]; decide)
     have hst := hS
     rw [show stage [2, 5] ls = 1 from by simp [stage, List.filter, hc2, hc5]] at hst
     clear hc2 hc5 hS hbh
     have e2 : ev (.tmp 2) = .pointer (some ⟨M, 0, none⟩) := hk 2 (by decide)
     clear hk hd
     exact Yield.op (v := .pointer (some ⟨M, 0, none⟩)) (w' := wy) (by simp [execOp, go_sem, e2]) ⟨(LB.refl _ _), rfl⟩
   · intro ev wy ls hp hl hS hbh hk hd
     rw [if_neg (by decide)]
     have hc2 : ls 2 = true := hbh.ready 2 (by decide)
     have hc5 : ls 5 = false := Bool.eq_false_iff.2 fun hq => absurd (hbh.closed 5 _ rfl (hq) 4 (by decide)) (by rw [hbh.notyet]; decide)
     have hst := hS
     rw [show stage [2, 5] ls = 1 from by simp [stage, List.filter, hc2, hc5]] at hst
     clear hc2 hc5 hS hbh
     have e5 : ev (.tmp 5) = .pointer (some ⟨M, 0, none⟩) := hk 5 (by decide)
     clear hk hd
     exact Yield.op (v := .pointer (some ⟨M, 17, none⟩)) (w' := wy) (by simp [execOp, go_sem, e5]) ⟨(LB.refl _ _), rfl⟩
   · intro ev wy ls hp hl hS hbh hk hd
     rw [if_pos (by decide)]
     have hc2 : ls 2 = true := hbh.ready 2 (by decide)
     have hc5 : ls 5 = false := hbh.notyet
     have hst := hS
     rw [show stage [2, 5] ls = 1 from by simp [stage, List.filter, hc2, hc5]] at hst
     have hup : stage [2, 5] (upd ls 5) = 2 := by simp [stage, List.filter, upd, hc2, hc5]
     clear hc2 hc5 hS hbh
     have e6 : ev (.tmp 6) = .pointer (some ⟨M, 17, none⟩) := hk 6 (by decide)
     have e4 : ev (.tmp 4) = .int .i64 ((x.s.num 1099511627776).2 : Nat) := hk 4 (by decide)
     clear hk hd
     obtain ⟨z1, z2, z3, z4⟩ := DF.st_ballot hst ((x.s.num 1099511627776).2 : Nat)
     exact Yield.stores rfl e6 e4 z1 ⟨⟨z3, DF.mbM hst z4⟩, rfl, by rw [hup]; exact z2⟩
 · decide
 · intro vals wz hz hS hv
   have g2 : vals 0 = .pointer (some ⟨M, 0, none⟩) := hv 0 (by decide)
   have g3 : vals 1 = .pointer (some ⟨p, 0, none⟩) := hv 1 (by decide)
   have g4 : vals 2 = .int .i64 ((x.s.num 1099511627776).2 : Nat) := hv 2 (by decide)
   have g5 : vals 3 = .pointer (some ⟨M, 0, none⟩) := hv 3 (by decide)
   have g6 : vals 4 = .pointer (some ⟨M, 17, none⟩) := hv 4 (by decide)
   have gn5 : vals 5 = undef := hv 5 (by decide)
   clear hv
   simp only [putAll, Act.put, List.setIfInBounds_toArray, List.set_cons_zero, List.set_cons_succ, g2, g3, g4, g5, g6]
   clear g2
   clear g3
   clear g4
   clear g5
   clear g6
   clear gn5
   go_wp2_with fail
   go_end0
   exact ⟨rfl, hS⟩
set_option maxHeartbeats 4000000 in
theorem take_rdOld (w : World) (h : DF w0 p M R MB E TX x w) : Calls Tryz.prog 100 #[.pointer (some ⟨R, 0, none⟩), .pointer (some ⟨MB, 0, none⟩)] w fun e w' => e = .returned (.tuple #[]) ∧ DF w0 p M R MB E TX (rdOld x) w' := by
 have HD := Lib.hid h
 have HM := Lib.hid (show ∀ wy, KB MB w wy → (Instr.loadAt 85 (.pointer (some ⟨MB, 0, none⟩))).run Tryz.prog wy = .ok (.pointer (some ⟨M, 0, none⟩)) wy from fun wy hk => h.ldM' hk.2)
 clear h
 go_enter Tryz.func100, Tryz.ntmps100
 go_wp2_with fail
 have h := HD.out
 refine wp_region_marked (by kernel_rfl) (LB MB) (KB MB) (fun iop v w => match iop with
  | 0 => v = .pointer (some ⟨M, 0, none⟩)
  | 1 => v = .pointer (some ⟨p, 0, none⟩)
  | 2 => v = .int .i64 ((x.s.num 1099511627776).2 : Nat)
  | 3 => v = .pointer (some ⟨M, 0, none⟩)
  | 4 => v = .pointer (some ⟨M, 18, none⟩)
  | _ => v = undef
  ) [2, 5] (stg (DF w0 p M R MB E TX x) (DF w0 p M R MB E TX ⟨x.m, x.err, (x.s.num 1099511627776).1⟩) (DF w0 p M R MB E TX (rdOld x)) (DF w0 p M R MB E TX (rdOld x))) (by kernel_rfl) (fun _ _ _ h k => KB.trans h k) (fun a => LB.refl MB a) (fun _ _ h => LB.k h) (fun k a b h hs => stg.keep k a b h hs) (⟨Ext.drew _, rfl⟩) h ?_ ?_ ?_ ?_
 · intro iop v wa wb hF hL
   iterate 5 (rcases iop with _ | iop; exact hF)
   exact hF
 · refine Obls2.cons ?_ (Obls2.cons ?_ (Obls2.cons ?_ (Obls2.cons ?_ (Obls2.cons ?_ (Obls2.cons ?_ (Obls2.nil))))))
   · intro ev wy ls hp hl hS hbh hk hd
     rw [if_neg (by decide)]
     clear hS hbh
     have e1 : ev (.tmp 1) = .pointer (some ⟨MB, 0, none⟩) := hk 1 (by decide)
     clear hk hd
     exact Yield.load rfl e1 (HM.out wy hl) ⟨LB.refl _ _, rfl⟩
   · intro ev wy ls hp hl hS hbh hk hd
     rw [if_neg (by decide)]
     have hc2 : ls 2 = false := Bool.eq_false_iff.2 fun hq => absurd (hbh.closed 2 _ rfl (hq) 1 (by decide)) (by rw [hbh.notyet]; decide)
     have hc5 : ls 5 = false := Bool.eq_false_iff.2 fun hq => absurd (hbh.closed 5 _ rfl (hq) 1 (by decide)) (by rw [hbh.notyet]; decide)
     have hst := hS
     rw [show stage [2, 5] ls = 0 from by simp [stage, List.filter, hc2, hc5]] at hst
     clear hc2 hc5 hS hbh
     have e0 : ev (.tmp 0) = .pointer (some ⟨R, 0, none⟩) := hk 0 (by decide)
     clear hk hd
     exact Yield.load rfl e0 (DF.ldR hst) ⟨LB.refl _ _, rfl⟩
   · intro ev wy ls hp hl hS hbh hk hd
     rw [if_pos (by decide)]
     have hc2 : ls 2 = false := hbh.notyet
     have hc5 : ls 5 = false := Bool.eq_false_iff.2 fun hq => absurd (hbh.closed 5 _ rfl (hq) 2 (by decide)) (by rw [hbh.notyet]; decide)
     have hst := hS
     rw [show stage [2, 5] ls = 0 from by simp [stage, List.filter, hc2, hc5]] at hst
     have hup : stage [2, 5] (upd ls 2) = 1 := by simp [stage, List.filter, upd, hc2, hc5]
     clear hc2 hc5 hS hbh
     have e3 : ev (.tmp 3) = .pointer (some ⟨p, 0, none⟩) := hk 3 (by decide)
     clear hk hd
     refine Yield.call rfl hp Tryz.func46 rfl (by kernel_rfl) ?_
     simp only [List.map_toArray, List.map_cons, List.map_nil, hp.const, e3]
     exact (num_any p x.s 1099511627776 wy (DF.rd hst)).mono fun e w' ⟨he, hB, hr⟩ => ⟨_, he, ⟨(DF.turn hst hB hr).2, DF.mbP hst hB⟩, rfl, by rw [hup]; exact (DF.turn hst hB hr).1⟩
   · intro ev wy ls hp hl hS hbh hk hd
     rw [if_neg (by decide)]
     have hc2 : ls 2 = true := hbh.ready 2 (by decide)
     have hc5 : ls 5 = false := Bool.eq_false_iff.2 fun hq => absurd (hbh.closed 4 _ rfl (hbh.closed 5 _ rfl (hq) 4 (by decide)) 3 (by decide)) (by rw [hbh.notyet]; decide)
     have hst := hS
     rw [show stage [2, 5] ls = 1 from by simp [stage, List.filter, hc2, hc5]] at hst
     clear hc2 hc5 hS hbh
     have e2 : ev (.tmp 2) = .pointer (some ⟨M, 0, none⟩) := hk 2 (by decide)
     clear hk hd
     exact Yield.op (v := .pointer (some ⟨M, 0, none⟩)) (w' := wy) (by simp [execOp, go_sem, e2]) ⟨(LB.refl _ _), rfl⟩
   · intro ev wy ls hp hl hS hbh hk hd
     rw [if_neg (by decide)]
     have hc2 : ls 2 = true := hbh.ready 2 (by decide)
     have hc5 : ls 5 = false := Bool.eq_false_iff.2 fun hq => absurd (hbh.closed 5 _ rfl (hq) 4 (by decide)) (by rw [hbh.notyet]; decide)
     have hst := hS
     rw [show stage [2, 5] ls = 1 from by simp [stage, List.filter, hc2, hc5]] at hst
     clear hc2 hc5 hS hbh
     have e5 : ev (.tmp 5) = .pointer (some ⟨M, 0, none⟩) := hk 5 (by decide)
     clear hk hd
     exact Yield.op (v := .pointer (some ⟨M, 18, none⟩)) (w' := wy) (by simp [execOp, go_sem, e5]) ⟨(LB.refl _ _), rfl⟩
   · intro ev wy ls hp hl hS hbh hk hd
     rw [if_pos (by decide)]
     have hc2 : ls 2 = true := hbh.ready 2 (by decide)
     have hc5 : ls 5 = false := hbh.notyet
     have hst := hS
     rw [show stage [2, 5] ls = 1 from by simp [stage, List.filter, hc2, hc5]] at hst
     have hup : stage [2, 5] (upd ls 5) = 2 := by simp [stage, List.filter, upd, hc2, hc5]
     clear hc2 hc5 hS hbh
     have e6 : ev (.tmp 6) = .pointer (some ⟨M, 18, none⟩) := hk 6 (by decide)
     have e4 : ev (.tmp 4) = .int .i64 ((x.s.num 1099511627776).2 : Nat) := hk 4 (by decide)
     clear hk hd
     obtain ⟨z1, z2, z3, z4⟩ := DF.st_old hst ((x.s.num 1099511627776).2 : Nat)
     exact Yield.stores rfl e6 e4 z1 ⟨⟨z3, DF.mbM hst z4⟩, rfl, by rw [hup]; exact z2⟩
 · decide
 · intro vals wz hz hS hv
   have g2 : vals 0 = .pointer (some ⟨M, 0, none⟩) := hv 0 (by decide)
   have g3 : vals 1 = .pointer (some ⟨p, 0, none⟩) := hv 1 (by decide)
   have g4 : vals 2 = .int .i64 ((x.s.num 1099511627776).2 : Nat) := hv 2 (by decide)
   have g5 : vals 3 = .pointer (some ⟨M, 0, none⟩) := hv 3 (by decide)
   have g6 : vals 4 = .pointer (some ⟨M, 18, none⟩) := hv 4 (by decide)
   have gn5 : vals 5 = undef := hv 5 (by decide)
   clear hv
   simp only [putAll, Act.put, List.setIfInBounds_toArray, List.set_cons_zero, List.set_cons_succ, g2, g3, g4, g5, g6]
   clear g2
   clear g3
   clear g4
   clear g5
   clear g6
   clear gn5
   go_wp2_with fail
   go_end0
   exact ⟨rfl, hS⟩
set_option maxHeartbeats 4000000 in
theorem take_rdIs (w : World) (h : DF w0 p M R MB E TX x w) : Calls Tryz.prog 101 #[.pointer (some ⟨R, 0, none⟩), .pointer (some ⟨MB, 0, none⟩)] w fun e w' => e = .returned (.tuple #[]) ∧ DF w0 p M R MB E TX (rdIs x) w' := by
 have HD := Lib.hid h
 have HM := Lib.hid (show ∀ wy, KB MB w wy → (Instr.loadAt 85 (.pointer (some ⟨MB, 0, none⟩))).run Tryz.prog wy = .ok (.pointer (some ⟨M, 0, none⟩)) wy from fun wy hk => h.ldM' hk.2)
 clear h
 go_enter Tryz.func101, Tryz.ntmps101
 go_wp2_with fail
 have h := HD.out
 refine wp_region_marked (by kernel_rfl) (LB MB) (KB MB) (fun iop v w => match iop with
  | 0 => v = .pointer (some ⟨M, 0, none⟩)
  | 1 => v = .pointer (some ⟨p, 0, none⟩)
  | 2 => v = .bool x.s.bool.2
  | 3 => v = .pointer (some ⟨M, 0, none⟩)
  | 4 => v = .pointer (some ⟨M, 6, none⟩)
  | _ => v = undef
  ) [2, 5] (stg (DF w0 p M R MB E TX x) (DF w0 p M R MB E TX ⟨x.m, x.err, x.s.bool.1⟩) (DF w0 p M R MB E TX (rdIs x)) (DF w0 p M R MB E TX (rdIs x))) (by kernel_rfl) (fun _ _ _ h k => KB.trans h k) (fun a => LB.refl MB a) (fun _ _ h => LB.k h) (fun k a b h hs => stg.keep k a b h hs) (⟨Ext.drew _, rfl⟩) h ?_ ?_ ?_ ?_
 · intro iop v wa wb hF hL
   iterate 5 (rcases iop with _ | iop; exact hF)
   exact hF
 · refine Obls2.cons ?_ (Obls2.cons ?_ (Obls2.cons ?_ (Obls2.cons ?_ (Obls2.cons ?_ (Obls2.cons ?_ (Obls2.nil))))))
   · intro ev wy ls hp hl hS hbh hk hd
     rw [if_neg (by decide)]
     clear hS hbh
     have e1 : ev (.tmp 1) = .pointer (some ⟨MB, 0, none⟩) := hk 1 (by decide)
     clear hk hd
     exact Yield.load rfl e1 (HM.out wy hl) ⟨LB.refl _ _, rfl⟩
   · intro ev wy ls hp hl hS hbh hk hd
     rw [if_neg (by decide)]
     have hc2 : ls 2 = false := Bool.eq_false_iff.2 fun hq => absurd (hbh.closed 2 _ rfl (hq) 1 (by decide)) (by rw [hbh.notyet]; decide)
     have hc5 : ls 5 = false := Bool.eq_false_iff.2 fun hq => absurd (hbh.closed 5 _ rfl (hq) 1 (by decide)) (by rw [hbh.notyet]; decide)
     have hst := hS
     rw [show stage [2, 5] ls = 0 from by simp [stage, List.filter, hc2, hc5]] at hst
     clear hc2 hc5 hS hbh
     have e0 : ev (.tmp 0) = .pointer (some ⟨R, 0, none⟩) := hk 0 (by decide)
     clear hk hd
     exact Yield.load rfl e0 (DF.ldR hst) ⟨LB.refl _ _, rfl⟩
   · intro ev wy ls hp hl hS hbh hk hd
     rw [if_pos (by decide)]
     have hc2 : ls 2 = false := hbh.notyet
     have hc5 : ls 5 = false := Bool.eq_false_iff.2 fun hq => absurd (hbh.closed 5 _ rfl (hq) 2 (by decide)) (by rw [hbh.notyet]; decide)
     have hst := hS
     rw [show stage [2, 5] ls = 0 from by simp [stage, List.filter, hc2, hc5]] at hst
     have hup : stage [2, 5] (upd ls 2) = 1 := by simp [stage, List.filter, upd, hc2, hc5]
     clear hc2 hc5 hS hbh
     have e3 : ev (.tmp 3) = .pointer (some ⟨p, 0, none⟩) := hk 3 (by decide)
     clear hk hd
     refine Yield.call rfl hp Tryz.func102 rfl (by kernel_rfl) ?_
     simp only [List.map_toArray, List.map_cons, List.map_nil, e3]
     exact (bool_any p x.s wy (DF.rd hst)).mono fun e w' ⟨he, hB, hr⟩ => ⟨_, he, ⟨(DF.turn hst hB hr).2, DF.mbP hst hB⟩, rfl, by rw [hup]; exact (DF.turn hst hB hr).1⟩
   · intro ev wy ls hp hl hS hbh hk hd
     rw [if_neg (by decide)]
     have hc2 : ls 2 = true := hbh.ready 2 (by decide)
     have hc5 : ls 5 = false := Bool.eq_false_iff.2 fun hq => absurd (hbh.closed 4 _ rfl (hbh.closed 5 _ rfl (hq) 4 (by decide)) 3 (by decide)) (by rw [hbh.notyet]; decide)
     have hst := hS
     rw [show stage [2, 5] ls = 1 from by simp [stage, List.filter, hc2, hc5]] at hst
     clear hc2 hc5 hS hbh
     have e2 : ev (.tmp 2) = .pointer (some ⟨M, 0, none⟩) := hk 2 (by decide)
     clear hk hd
     exact Yield.op (v := .pointer (some ⟨M, 0, none⟩)) (w' := wy) (by simp [execOp, go_sem, e2]) ⟨(LB.refl _ _), rfl⟩
   · intro ev wy ls hp hl hS hbh hk hd
     rw [if_neg (by decide)]
     have hc2 : ls 2 = true := hbh.ready 2 (by decide)
     have hc5 : ls 5 = false := Bool.eq_false_iff.2 fun hq => absurd (hbh.closed 5 _ rfl (hq) 4 (by decide)) (by rw [hbh.notyet]; decide)
     have hst := hS
     rw [show stage [2, 5] ls = 1 from by simp [stage, List.filter, hc2, hc5]] at hst
     clear hc2 hc5 hS hbh
     have e5 : ev (.tmp 5) = .pointer (some ⟨M, 0, none⟩) := hk 5 (by decide)
     clear hk hd
     exact Yield.op (v := .pointer (some ⟨M, 6, none⟩)) (w' := wy) (by simp [execOp, go_sem, e5]) ⟨(LB.refl _ _), rfl⟩
   · intro ev wy ls hp hl hS hbh hk hd
     rw [if_pos (by decide)]
     have hc2 : ls 2 = true := hbh.ready 2 (by decide)
     have hc5 : ls 5 = false := hbh.notyet
     have hst := hS
     rw [show stage [2, 5] ls = 1 from by simp [stage, List.filter, hc2, hc5]] at hst
     have hup : stage [2, 5] (upd ls 5) = 2 := by simp [stage, List.filter, upd, hc2, hc5]
     clear hc2 hc5 hS hbh
     have e6 : ev (.tmp 6) = .pointer (some ⟨M, 6, none⟩) := hk 6 (by decide)
     have e4 : ev (.tmp 4) = .bool x.s.bool.2 := hk 4 (by decide)
     clear hk hd
     obtain ⟨z1, z2, z3, z4⟩ := DF.st_is hst x.s.bool.2
     exact Yield.stores rfl e6 e4 z1 ⟨⟨z3, DF.mbM hst z4⟩, rfl, by rw [hup]; exact z2⟩
 · decide
 · intro vals wz hz hS hv
   have g2 : vals 0 = .pointer (some ⟨M, 0, none⟩) := hv 0 (by decide)
   have g3 : vals 1 = .pointer (some ⟨p, 0, none⟩) := hv 1 (by decide)
   have g4 : vals 2 = .bool x.s.bool.2 := hv 2 (by decide)
   have g5 : vals 3 = .pointer (some ⟨M, 0, none⟩) := hv 3 (by decide)
   have g6 : vals 4 = .pointer (some ⟨M, 6, none⟩) := hv 4 (by decide)
   have gn5 : vals 5 = undef := hv 5 (by decide)
   clear hv
   simp only [putAll, Act.put, List.setIfInBounds_toArray, List.set_cons_zero, List.set_cons_succ, g2, g3, g4, g5, g6]
   clear g2
   clear g3
   clear g4
   clear g5
   clear g6
   clear gn5
   go_wp2_with fail
   go_end0
   exact ⟨rfl, hS⟩
set_option maxHeartbeats 4000000 in
theorem take_rdEnt (w : World) (h : DF w0 p M R MB E TX x w) : Calls Tryz.prog 97 #[.pointer (some ⟨TX, 0, none⟩), .pointer (some ⟨MB, 0, none⟩), .pointer (some ⟨E, 0, none⟩)] w fun e w' => e = .returned (.tuple #[]) ∧ DF w0 p M R MB E TX (rdEnt x) w' := by
 have HD := Lib.hid h
 have HM := Lib.hid (show ∀ wy, KB MB w wy → (Instr.loadAt 85 (.pointer (some ⟨MB, 0, none⟩))).run Tryz.prog wy = .ok (.pointer (some ⟨M, 0, none⟩)) wy from fun wy hk => h.ldM' hk.2)
 have HL := Lib.hid (text_len x.s (by omega))
 clear h
 go_enter Tryz.func97, Tryz.ntmps97
 go_wp2_with fail
 have h := HD.out
 refine wp_region_marked (by kernel_rfl) (LB MB) (KB MB) (fun iop v w => match iop with
  | 0 => v = .pointer (some ⟨M, 0, none⟩)
  | 1 => v = .func (.func 93) #[] #[.pointer (some ⟨R, 0, none⟩)]
  | 2 => BO w v (x.s.text 65536).2
  | 3 => ∃ u, v = .tuple #[u, .int .i64 (Ent.errOf (Crc.cutOf (x.s.text 65536).2) (Ent.dec Ent.vd (x.s.text 65536).2))] ∧ RowEnt w u (Ent.entOf (Ent.dec Ent.vd (x.s.text 65536).2))
  | 4 => ∃ u, v = .tuple #[u, .int .i64 (Ent.errOf (Crc.cutOf (x.s.text 65536).2) (Ent.dec Ent.vd (x.s.text 65536).2))] ∧ RowEnt w u (Ent.entOf (Ent.dec Ent.vd (x.s.text 65536).2))
  | 5 => RowEnt w v (Ent.entOf (Ent.dec Ent.vd (x.s.text 65536).2))
  | 6 => v = .int .i64 (Ent.errOf (Crc.cutOf (x.s.text 65536).2) (Ent.dec Ent.vd (x.s.text 65536).2))
  | 7 => v = .pointer (some ⟨M, 0, none⟩)
  | 8 => v = .pointer (some ⟨M, 11, none⟩)
  | 9 => v = undef
  | _ => v = undef
  ) [2, 9, 10] (stg (DF w0 p M R MB E TX x) (DF w0 p M R MB E TX ⟨x.m, x.err, (x.s.text 65536).1⟩) (DF w0 p M R MB E TX ⟨{ x.m with ent := Ent.entOf (Ent.dec Ent.vd (x.s.text 65536).2) }, x.err, (x.s.text 65536).1⟩) (DF w0 p M R MB E TX (rdEnt x))) (by kernel_rfl) (fun _ _ _ h k => KB.trans h k) (fun a => LB.refl MB a) (fun _ _ h => LB.k h) (fun k a b h hs => stg.keep k a b h hs) (⟨Ext.drew _, rfl⟩) h ?_ ?_ ?_ ?_
 · intro iop v wa wb hF hL
   iterate 2 (rcases iop with _ | iop; exact hF)
   iterate 4 (rcases iop with _ | iop; (first | exact hF | exact hL.1.b _ _ hF | (obtain ⟨u, h1, t, h2, h3⟩ := hF; exact ⟨u, h1, t, h2, hL.1.i _ _ h3⟩) | (obtain ⟨t, h2, h3⟩ := hF; exact ⟨t, h2, hL.1.i _ _ h3⟩) | (obtain ⟨u, h1, t, d, h2, h3, h4⟩ := hF; exact ⟨u, h1, t, d, h2, hL.1.i _ _ h3, hL.1.r _ _ h4⟩) | (obtain ⟨t, d, h2, h3, h4⟩ := hF; exact ⟨t, d, h2, hL.1.i _ _ h3, hL.1.r _ _ h4⟩)))
   iterate 4 (rcases iop with _ | iop; exact hF)
   exact hF
 · refine Obls2.cons ?_ (Obls2.cons ?_ (Obls2.cons ?_ (Obls2.cons ?_ (Obls2.cons ?_ (Obls2.cons ?_ (Obls2.cons ?_ (Obls2.cons ?_ (Obls2.cons ?_ (Obls2.cons ?_ (Obls2.cons ?_ (Obls2.nil)))))))))))
   · intro ev wy ls hp hl hS hbh hk hd
     rw [if_neg (by decide)]
     clear hS hbh
     have e1 : ev (.tmp 1) = .pointer (some ⟨MB, 0, none⟩) := hk 1 (by decide)
     clear hk hd
     exact Yield.load rfl e1 (HM.out wy hl) ⟨LB.refl _ _, rfl⟩
   · intro ev wy ls hp hl hS hbh hk hd
     rw [if_neg (by decide)]
     have hc2 : ls 2 = false := Bool.eq_false_iff.2 fun hq => absurd (hbh.closed 2 _ rfl (hq) 1 (by decide)) (by rw [hbh.notyet]; decide)
     have hc9 : ls 9 = false := Bool.eq_false_iff.2 fun hq => absurd (hbh.closed 9 _ rfl (hq) 1 (by decide)) (by rw [hbh.notyet]; decide)
     have hc10 : ls 10 = false := Bool.eq_false_iff.2 fun hq => absurd (hbh.closed 10 _ rfl (hq) 1 (by decide)) (by rw [hbh.notyet]; decide)
     have hst := hS
     rw [show stage [2, 9, 10] ls = 0 from by simp [stage, List.filter, hc2, hc9, hc10]] at hst
     clear hc2 hc9 hc10 hS hbh
     have e0 : ev (.tmp 0) = .pointer (some ⟨TX, 0, none⟩) := hk 0 (by decide)
     clear hk hd
     exact Yield.load rfl e0 (DF.ldT hst) ⟨LB.refl _ _, rfl⟩
   · intro ev wy ls hp hl hS hbh hk hd
     rw [if_pos (by decide)]
     have hc2 : ls 2 = false := hbh.notyet
     have hc9 : ls 9 = false := Bool.eq_false_iff.2 fun hq => absurd (hbh.closed 9 _ rfl (hq) 2 (by decide)) (by rw [hbh.notyet]; decide)
     have hc10 : ls 10 = false := Bool.eq_false_iff.2 fun hq => absurd (hbh.closed 10 _ rfl (hq) 2 (by decide)) (by rw [hbh.notyet]; decide)
     have hst := hS
     rw [show stage [2, 9, 10] ls = 0 from by simp [stage, List.filter, hc2, hc9, hc10]] at hst
     have hup : stage [2, 9, 10] (upd ls 2) = 1 := by simp [stage, List.filter, upd, hc2, hc9, hc10]
     clear hc2 hc9 hc10 hS hbh
     have e5 : ev (.tmp 5) = .func (.func 93) #[] #[.pointer (some ⟨R, 0, none⟩)] := hk 5 (by decide)
     clear hk
     refine Yield.callf rfl e5 Tryz.func93 rfl (by kernel_rfl) ?_
     simp only [List.map_toArray, List.map_cons, List.map_nil, List.append_toArray, List.nil_append]
     exact (takeText7 wy hst).mono fun e w' ⟨u, he, hb, hd, hk⟩ => ⟨u, he, hk, hb, by rw [hup]; exact hd⟩
   · intro ev wy ls hp hl hS hbh hk hd
     rw [if_neg (by decide)]
     have hc2 : ls 2 = true := hbh.ready 2 (by decide)
     have hc9 : ls 9 = false := Bool.eq_false_iff.2 fun hq => absurd (hbh.closed 9 _ rfl (hq) 3 (by decide)) (by rw [hbh.notyet]; decide)
     have hc10 : ls 10 = false := Bool.eq_false_iff.2 fun hq => absurd (hbh.closed 10 _ rfl (hq) 3 (by decide)) (by rw [hbh.notyet]; decide)
     have hst := hS
     rw [show stage [2, 9, 10] ls = 1 from by simp [stage, List.filter, hc2, hc9, hc10]] at hst
     clear hc2 hc9 hc10 hS hbh
     have f6 : (fun (v : Value) (w : World) => BO w v (x.s.text 65536).2) (ev (.tmp 6)) wy := hk 6 (by decide)
     generalize hx6 : ev (.tmp 6) = x6 at *
     clear hk hd
     refine Yield.call rfl hp Tryz.func98 rfl (by kernel_rfl) ?_
     simp only [List.map_toArray, List.map_cons, List.map_nil, hx6]
     exact (decode5_row x6 (x.s.text 65536).2 wy f6.1 (by have := HL.out; omega)).mono fun e w' ⟨u, he, hr, hE⟩ => ⟨_, he, ⟨hE, DF.mbE hst hE⟩, u, rfl, hr⟩
   · intro ev wy ls hp hl hS hbh hk hd
     rw [if_neg (by decide)]
     have hc2 : ls 2 = true := hbh.closed 3 _ rfl (hbh.ready 3 (by decide)) 2 (by decide)
     have hc9 : ls 9 = false := Bool.eq_false_iff.2 fun hq => absurd (hbh.closed 9 _ rfl (hq) 4 (by decide)) (by rw [hbh.notyet]; decide)
     have hc10 : ls 10 = false := Bool.eq_false_iff.2 fun hq => absurd (hbh.closed 10 _ rfl (hq) 4 (by decide)) (by rw [hbh.notyet]; decide)
     have hst := hS
     rw [show stage [2, 9, 10] ls = 1 from by simp [stage, List.filter, hc2, hc9, hc10]] at hst
     clear hc2 hc9 hc10 hS hbh
     have f7 : (fun (v : Value) (w : World) => ∃ u, v = .tuple #[u, .int .i64 (Ent.errOf (Crc.cutOf (x.s.text 65536).2) (Ent.dec Ent.vd (x.s.text 65536).2))] ∧ RowEnt w u (Ent.entOf (Ent.dec Ent.vd (x.s.text 65536).2))) (ev (.tmp 7)) wy := hk 7 (by decide)
     generalize hx7 : ev (.tmp 7) = x7 at *
     clear hk hd
     exact Yield.mv rfl ⟨(LB.refl _ _), by rw [hx7]; exact f7⟩
   · intro ev wy ls hp hl hS hbh hk hd
     rw [if_neg (by decide)]
     have hc2 : ls 2 = true := hbh.closed 3 _ rfl (hbh.closed 4 _ rfl (hbh.ready 4 (by decide)) 3 (by decide)) 2 (by decide)
     have hc9 : ls 9 = false := Bool.eq_false_iff.2 fun hq => absurd (hbh.closed 9 _ rfl (hq) 5 (by decide)) (by rw [hbh.notyet]; decide)
     have hc10 : ls 10 = false := Bool.eq_false_iff.2 fun hq => absurd (hbh.closed 10 _ rfl (hq) 5 (by decide)) (by rw [hbh.notyet]; decide)
     have hst := hS
     rw [show stage [2, 9, 10] ls = 1 from by simp [stage, List.filter, hc2, hc9, hc10]] at hst
     clear hc2 hc9 hc10 hS hbh
     have f3 : (fun (v : Value) (w : World) => ∃ u, v = .tuple #[u, .int .i64 (Ent.errOf (Crc.cutOf (x.s.text 65536).2) (Ent.dec Ent.vd (x.s.text 65536).2))] ∧ RowEnt w u (Ent.entOf (Ent.dec Ent.vd (x.s.text 65536).2))) (ev (.tmp 3)) wy := hk 3 (by decide)
     generalize hx3 : ev (.tmp 3) = x3 at *
     clear hk hd
     obtain ⟨u, hu, hr⟩ := f3
     exact Yield.op (v := u) (w' := wy) (by simp [execOp, go_sem, hx3, hu]) ⟨LB.refl _ _, hr⟩
   · intro ev wy ls hp hl hS hbh hk hd
     rw [if_neg (by decide)]
     clear hS hbh
     have f3 : (fun (v : Value) (w : World) => ∃ u, v = .tuple #[u, .int .i64 (Ent.errOf (Crc.cutOf (x.s.text 65536).2) (Ent.dec Ent.vd (x.s.text 65536).2))] ∧ RowEnt w u (Ent.entOf (Ent.dec Ent.vd (x.s.text 65536).2))) (ev (.tmp 3)) wy := hk 3 (by decide)
     generalize hx3 : ev (.tmp 3) = x3 at *
     clear hk hd
     obtain ⟨u, hu, hr⟩ := f3
     exact Yield.op (w' := wy) (by simp [execOp, go_sem, hx3, hu]) ⟨LB.refl _ _, rfl⟩
   · intro ev wy ls hp hl hS hbh hk hd
     rw [if_neg (by decide)]
     have hc2 : ls 2 = true := hbh.ready 2 (by decide)
     have hc9 : ls 9 = false := Bool.eq_false_iff.2 fun hq => absurd (hbh.closed 8 _ rfl (hbh.closed 9 _ rfl (hq) 8 (by decide)) 7 (by decide)) (by rw [hbh.notyet]; decide)
     have hc10 : ls 10 = false := Bool.eq_false_iff.2 fun hq => absurd (hbh.closed 10 _ rfl (hq) 7 (by decide)) (by rw [hbh.notyet]; decide)
     have hst := hS
     rw [show stage [2, 9, 10] ls = 1 from by simp [stage, List.filter, hc2, hc9, hc10]] at hst
     clear hc2 hc9 hc10 hS hbh
     have e4 : ev (.tmp 4) = .pointer (some ⟨M, 0, none⟩) := hk 4 (by decide)
     clear hk hd
     exact Yield.op (v := .pointer (some ⟨M, 0, none⟩)) (w' := wy) (by simp [execOp, go_sem, e4]) ⟨(LB.refl _ _), rfl⟩
   · intro ev wy ls hp hl hS hbh hk hd
     rw [if_neg (by decide)]
     have hc2 : ls 2 = true := hbh.ready 2 (by decide)
     have hc9 : ls 9 = false := Bool.eq_false_iff.2 fun hq => absurd (hbh.closed 9 _ rfl (hq) 8 (by decide)) (by rw [hbh.notyet]; decide)
     have hc10 : ls 10 = false := Bool.eq_false_iff.2 fun hq => absurd (hbh.closed 10 _ rfl (hq) 8 (by decide)) (by rw [hbh.notyet]; decide)
     have hst := hS
     rw [show stage [2, 9, 10] ls = 1 from by simp [stage, List.filter, hc2, hc9, hc10]] at hst
     clear hc2 hc9 hc10 hS hbh
     have e10 : ev (.tmp 10) = .pointer (some ⟨M, 0, none⟩) := hk 10 (by decide)
     clear hk hd
     exact Yield.op (v := .pointer (some ⟨M, 11, none⟩)) (w' := wy) (by simp [execOp, go_sem, e10]) ⟨(LB.refl _ _), rfl⟩
   · intro ev wy ls hp hl hS hbh hk hd
     rw [if_pos (by decide)]
     have hc2 : ls 2 = true := hbh.ready 2 (by decide)
     have hc9 : ls 9 = false := hbh.notyet
     have hc10 : ls 10 = false := Bool.eq_false_iff.2 fun hq => absurd (hbh.closed 10 _ rfl (hq) 9 (by decide)) (by rw [hbh.notyet]; decide)
     have hst := hS
     rw [show stage [2, 9, 10] ls = 1 from by simp [stage, List.filter, hc2, hc9, hc10]] at hst
     have hup : stage [2, 9, 10] (upd ls 9) = 2 := by simp [stage, List.filter, upd, hc2, hc9, hc10]
     clear hc2 hc9 hc10 hS hbh
     have e11 : ev (.tmp 11) = .pointer (some ⟨M, 11, none⟩) := hk 11 (by decide)
     have f8 : (fun (v : Value) (w : World) => RowEnt w v (Ent.entOf (Ent.dec Ent.vd (x.s.text 65536).2))) (ev (.tmp 8)) wy := hk 8 (by decide)
     generalize hx8 : ev (.tmp 8) = x8 at *
     clear hk hd
     obtain ⟨t, hx, hk⟩ := f8
     obtain ⟨z1, z2, z3, z4⟩ := DF.st_ent hst (Ent.entOf (Ent.dec Ent.vd (x.s.text 65536).2)) t hk
     exact Yield.stores rfl e11 (hx8.trans hx) z1 ⟨⟨z3, DF.mbM hst z4⟩, rfl, by rw [hup]; exact z2⟩
   · intro ev wy ls hp hl hS hbh hk hd
     rw [if_pos (by decide)]
     have hc2 : ls 2 = true := hbh.ready 2 (by decide)
     have hc9 : ls 9 = true := hbh.ready 9 (by decide)
     have hc10 : ls 10 = false := hbh.notyet
     have hst := hS
     rw [show stage [2, 9, 10] ls = 2 from by simp [stage, List.filter, hc2, hc9, hc10]] at hst
     have hup : stage [2, 9, 10] (upd ls 10) = 3 := by simp [stage, List.filter, upd, hc2, hc9, hc10]
     clear hc2 hc9 hc10 hS hbh
     have e2 : ev (.tmp 2) = .pointer (some ⟨E, 0, none⟩) := hk 2 (by decide)
     have e9 : ev (.tmp 9) = .int .i64 (Ent.errOf (Crc.cutOf (x.s.text 65536).2) (Ent.dec Ent.vd (x.s.text 65536).2)) := hk 9 (by decide)
     clear hk hd
     obtain ⟨z1, z2⟩ := DF.errs hst (Ent.errOf (Crc.cutOf (x.s.text 65536).2) (Ent.dec Ent.vd (x.s.text 65536).2))
     exact Yield.stores rfl e2 e9 (DF.stE hst _) ⟨⟨z2, DF.mbS hst (butSet _ _ _ _)⟩, rfl, by rw [hup]; exact z1⟩
 · decide
 · intro vals wz hz hS hv
   have g4 : vals 0 = .pointer (some ⟨M, 0, none⟩) := hv 0 (by decide)
   have g5 : vals 1 = .func (.func 93) #[] #[.pointer (some ⟨R, 0, none⟩)] := hv 1 (by decide)
   have g6 : (fun (v : Value) (w : World) => BO w v (x.s.text 65536).2) (vals 2) wz := hv 2 (by decide)
   have g7 : (fun (v : Value) (w : World) => ∃ u, v = .tuple #[u, .int .i64 (Ent.errOf (Crc.cutOf (x.s.text 65536).2) (Ent.dec Ent.vd (x.s.text 65536).2))] ∧ RowEnt w u (Ent.entOf (Ent.dec Ent.vd (x.s.text 65536).2))) (vals 3) wz := hv 3 (by decide)
   have g3 : (fun (v : Value) (w : World) => ∃ u, v = .tuple #[u, .int .i64 (Ent.errOf (Crc.cutOf (x.s.text 65536).2) (Ent.dec Ent.vd (x.s.text 65536).2))] ∧ RowEnt w u (Ent.entOf (Ent.dec Ent.vd (x.s.text 65536).2))) (vals 4) wz := hv 4 (by decide)
   have g8 : (fun (v : Value) (w : World) => RowEnt w v (Ent.entOf (Ent.dec Ent.vd (x.s.text 65536).2))) (vals 5) wz := hv 5 (by decide)
   have g9 : vals 6 = .int .i64 (Ent.errOf (Crc.cutOf (x.s.text 65536).2) (Ent.dec Ent.vd (x.s.text 65536).2)) := hv 6 (by decide)
   have g10 : vals 7 = .pointer (some ⟨M, 0, none⟩) := hv 7 (by decide)
   have g11 : vals 8 = .pointer (some ⟨M, 11, none⟩) := hv 8 (by decide)
   have gn9 : vals 9 = undef := hv 9 (by decide)
   have gn10 : vals 10 = undef := hv 10 (by decide)
   clear hv
   simp only [putAll, Act.put, List.setIfInBounds_toArray, List.set_cons_zero, List.set_cons_succ, g4, g5, g9, g10, g11]
   clear g4
   clear g5
   generalize vals 2 = v6 at *
   generalize vals 3 = v7 at *
   generalize vals 4 = v3 at *
   generalize vals 5 = v8 at *
   clear g9
   clear g10
   clear g11
   clear gn9
   clear gn10
   go_wp2_with fail
   go_end0
   exact ⟨rfl, hS⟩
set_option maxHeartbeats 4000000 in
theorem take_rdReco (w : World) (h : DF w0 p M R MB E TX x w) : Calls Tryz.prog 103 #[.pointer (some ⟨TX, 0, none⟩), .pointer (some ⟨MB, 0, none⟩), .pointer (some ⟨E, 0, none⟩)] w fun e w' => e = .returned (.tuple #[]) ∧ DF w0 p M R MB E TX (rdReco x) w' := by
 have HD := Lib.hid h
 have HM := Lib.hid (show ∀ wy, KB MB w wy → (Instr.loadAt 85 (.pointer (some ⟨MB, 0, none⟩))).run Tryz.prog wy = .ok (.pointer (some ⟨M, 0, none⟩)) wy from fun wy hk => h.ldM' hk.2)
 have HL := Lib.hid (text_len x.s (by omega))
 clear h
 go_enter Tryz.func103, Tryz.ntmps103
 go_wp2_with fail
 have h := HD.out
 refine wp_region_marked (by kernel_rfl) (LB MB) (KB MB) (fun iop v w => match iop with
  | 0 => v = .pointer (some ⟨M, 0, none⟩)
  | 1 => v = .func (.func 93) #[] #[.pointer (some ⟨R, 0, none⟩)]
  | 2 => BO w v (x.s.text 65536).2
  | 3 => ∃ u, v = .tuple #[u, .int .i64 (decErr4 (Crc.cutOf (x.s.text 65536).2))] ∧ RowRec w u (decRec4 (Crc.cutOf (x.s.text 65536).2))
  | 4 => ∃ u, v = .tuple #[u, .int .i64 (decErr4 (Crc.cutOf (x.s.text 65536).2))] ∧ RowRec w u (decRec4 (Crc.cutOf (x.s.text 65536).2))
  | 5 => RowRec w v (decRec4 (Crc.cutOf (x.s.text 65536).2))
  | 6 => v = .int .i64 (decErr4 (Crc.cutOf (x.s.text 65536).2))
  | 7 => v = .pointer (some ⟨M, 0, none⟩)
  | 8 => v = .pointer (some ⟨M, 7, none⟩)
  | 9 => v = undef
  | _ => v = undef
  ) [2, 9, 10] (stg (DF w0 p M R MB E TX x) (DF w0 p M R MB E TX ⟨x.m, x.err, (x.s.text 65536).1⟩) (DF w0 p M R MB E TX ⟨{ x.m with reco := decRec4 (Crc.cutOf (x.s.text 65536).2) }, x.err, (x.s.text 65536).1⟩) (DF w0 p M R MB E TX (rdReco x))) (by kernel_rfl) (fun _ _ _ h k => KB.trans h k) (fun a => LB.refl MB a) (fun _ _ h => LB.k h) (fun k a b h hs => stg.keep k a b h hs) (⟨Ext.drew _, rfl⟩) h ?_ ?_ ?_ ?_
 · intro iop v wa wb hF hL
   iterate 2 (rcases iop with _ | iop; exact hF)
   iterate 4 (rcases iop with _ | iop; (first | exact hF | exact hL.1.b _ _ hF | (obtain ⟨u, h1, t, h2, h3⟩ := hF; exact ⟨u, h1, t, h2, hL.1.i _ _ h3⟩) | (obtain ⟨t, h2, h3⟩ := hF; exact ⟨t, h2, hL.1.i _ _ h3⟩) | (obtain ⟨u, h1, t, d, h2, h3, h4⟩ := hF; exact ⟨u, h1, t, d, h2, hL.1.i _ _ h3, hL.1.r _ _ h4⟩) | (obtain ⟨t, d, h2, h3, h4⟩ := hF; exact ⟨t, d, h2, hL.1.i _ _ h3, hL.1.r _ _ h4⟩)))
   iterate 4 (rcases iop with _ | iop; exact hF)
   exact hF
 · refine Obls2.cons ?_ (Obls2.cons ?_ (Obls2.cons ?_ (Obls2.cons ?_ (Obls2.cons ?_ (Obls2.cons ?_ (Obls2.cons ?_ (Obls2.cons ?_ (Obls2.cons ?_ (Obls2.cons ?_ (Obls2.cons ?_ (Obls2.nil)))))))))))
   · intro ev wy ls hp hl hS hbh hk hd
     rw [if_neg (by decide)]
     clear hS hbh
     have e1 : ev (.tmp 1) = .pointer (some ⟨MB, 0, none⟩) := hk 1 (by decide)
     clear hk hd
     exact Yield.load rfl e1 (HM.out wy hl) ⟨LB.refl _ _, rfl⟩
   · intro ev wy ls hp hl hS hbh hk hd
     rw [if_neg (by decide)]
     have hc2 : ls 2 = false := Bool.eq_false_iff.2 fun hq => absurd (hbh.closed 2 _ rfl (hq) 1 (by decide)) (by rw [hbh.notyet]; decide)
     have hc9 : ls 9 = false := Bool.eq_false_iff.2 fun hq => absurd (hbh.closed 9 _ rfl (hq) 1 (by decide)) (by rw [hbh.notyet]; decide)
     have hc10 : ls 10 = false := Bool.eq_false_iff.2 fun hq => absurd (hbh.closed 10 _ rfl (hq) 1 (by decide)) (by rw [hbh.notyet]; decide)
     have hst := hS
     rw [show stage [2, 9, 10] ls = 0 from by simp [stage, List.filter, hc2, hc9, hc10]] at hst
     clear hc2 hc9 hc10 hS hbh
     have e0 : ev (.tmp 0) = .pointer (some ⟨TX, 0, none⟩) := hk 0 (by decide)
     clear hk hd
     exact Yield.load rfl e0 (DF.ldT hst) ⟨LB.refl _ _, rfl⟩
   · intro ev wy ls hp hl hS hbh hk hd
     rw [if_pos (by decide)]
     have hc2 : ls 2 = false := hbh.notyet
     have hc9 : ls 9 = false := Bool.eq_false_iff.2 fun hq => absurd (hbh.closed 9 _ rfl (hq) 2 (by decide)) (by rw [hbh.notyet]; decide)
     have hc10 : ls 10 = false := Bool.eq_false_iff.2 fun hq => absurd (hbh.closed 10 _ rfl (hq) 2 (by decide)) (by rw [hbh.notyet]; decide)
     have hst := hS
     rw [show stage [2, 9, 10] ls = 0 from by simp [stage, List.filter, hc2, hc9, hc10]] at hst
     have hup : stage [2, 9, 10] (upd ls 2) = 1 := by simp [stage, List.filter, upd, hc2, hc9, hc10]
     clear hc2 hc9 hc10 hS hbh
     have e5 : ev (.tmp 5) = .func (.func 93) #[] #[.pointer (some ⟨R, 0, none⟩)] := hk 5 (by decide)
     clear hk
     refine Yield.callf rfl e5 Tryz.func93 rfl (by kernel_rfl) ?_
     simp only [List.map_toArray, List.map_cons, List.map_nil, List.append_toArray, List.nil_append]
     exact (takeText7 wy hst).mono fun e w' ⟨u, he, hb, hd, hk⟩ => ⟨u, he, hk, hb, by rw [hup]; exact hd⟩
   · intro ev wy ls hp hl hS hbh hk hd
     rw [if_neg (by decide)]
     have hc2 : ls 2 = true := hbh.ready 2 (by decide)
     have hc9 : ls 9 = false := Bool.eq_false_iff.2 fun hq => absurd (hbh.closed 9 _ rfl (hq) 3 (by decide)) (by rw [hbh.notyet]; decide)
     have hc10 : ls 10 = false := Bool.eq_false_iff.2 fun hq => absurd (hbh.closed 10 _ rfl (hq) 3 (by decide)) (by rw [hbh.notyet]; decide)
     have hst := hS
     rw [show stage [2, 9, 10] ls = 1 from by simp [stage, List.filter, hc2, hc9, hc10]] at hst
     clear hc2 hc9 hc10 hS hbh
     have f6 : (fun (v : Value) (w : World) => BO w v (x.s.text 65536).2) (ev (.tmp 6)) wy := hk 6 (by decide)
     generalize hx6 : ev (.tmp 6) = x6 at *
     clear hk hd
     refine Yield.call rfl hp Tryz.func104 rfl (by kernel_rfl) ?_
     simp only [List.map_toArray, List.map_cons, List.map_nil, hx6]
     exact (decode4_row x6 (x.s.text 65536).2 wy f6.1 (by have := HL.out; omega)).mono fun e w' ⟨u, he, hr, hE⟩ => ⟨_, he, ⟨hE, DF.mbE hst hE⟩, u, rfl, hr⟩
   · intro ev wy ls hp hl hS hbh hk hd
     rw [if_neg (by decide)]
     have hc2 : ls 2 = true := hbh.closed 3 _ rfl (hbh.ready 3 (by decide)) 2 (by decide)
     have hc9 : ls 9 = false := Bool.eq_false_iff.2 fun hq => absurd (hbh.closed 9 _ rfl (hq) 4 (by decide)) (by rw [hbh.notyet]; decide)
     have hc10 : ls 10 = false := Bool.eq_false_iff.2 fun hq => absurd (hbh.closed 10 _ rfl (hq) 4 (by decide)) (by rw [hbh.notyet]; decide)
     have hst := hS
     rw [show stage [2, 9, 10] ls = 1 from by simp [stage, List.filter, hc2, hc9, hc10]] at hst
     clear hc2 hc9 hc10 hS hbh
     have f7 : (fun (v : Value) (w : World) => ∃ u, v = .tuple #[u, .int .i64 (decErr4 (Crc.cutOf (x.s.text 65536).2))] ∧ RowRec w u (decRec4 (Crc.cutOf (x.s.text 65536).2))) (ev (.tmp 7)) wy := hk 7 (by decide)
     generalize hx7 : ev (.tmp 7) = x7 at *
     clear hk hd
     exact Yield.mv rfl ⟨(LB.refl _ _), by rw [hx7]; exact f7⟩
   · intro ev wy ls hp hl hS hbh hk hd
     rw [if_neg (by decide)]
     have hc2 : ls 2 = true := hbh.closed 3 _ rfl (hbh.closed 4 _ rfl (hbh.ready 4 (by decide)) 3 (by decide)) 2 (by decide)
     have hc9 : ls 9 = false := Bool.eq_false_iff.2 fun hq => absurd (hbh.closed 9 _ rfl (hq) 5 (by decide)) (by rw [hbh.notyet]; decide)
     have hc10 : ls 10 = false := Bool.eq_false_iff.2 fun hq => absurd (hbh.closed 10 _ rfl (hq) 5 (by decide)) (by rw [hbh.notyet]; decide)
     have hst := hS
     rw [show stage [2, 9, 10] ls = 1 from by simp [stage, List.filter, hc2, hc9, hc10]] at hst
     clear hc2 hc9 hc10 hS hbh
     have f3 : (fun (v : Value) (w : World) => ∃ u, v = .tuple #[u, .int .i64 (decErr4 (Crc.cutOf (x.s.text 65536).2))] ∧ RowRec w u (decRec4 (Crc.cutOf (x.s.text 65536).2))) (ev (.tmp 3)) wy := hk 3 (by decide)
     generalize hx3 : ev (.tmp 3) = x3 at *
     clear hk hd
     obtain ⟨u, hu, hr⟩ := f3
     exact Yield.op (v := u) (w' := wy) (by simp [execOp, go_sem, hx3, hu]) ⟨LB.refl _ _, hr⟩
   · intro ev wy ls hp hl hS hbh hk hd
     rw [if_neg (by decide)]
     clear hS hbh
     have f3 : (fun (v : Value) (w : World) => ∃ u, v = .tuple #[u, .int .i64 (decErr4 (Crc.cutOf (x.s.text 65536).2))] ∧ RowRec w u (decRec4 (Crc.cutOf (x.s.text 65536).2))) (ev (.tmp 3)) wy := hk 3 (by decide)
     generalize hx3 : ev (.tmp 3) = x3 at *
     clear hk hd
     obtain ⟨u, hu, hr⟩ := f3
     exact Yield.op (w' := wy) (by simp [execOp, go_sem, hx3, hu]) ⟨LB.refl _ _, rfl⟩
   · intro ev wy ls hp hl hS hbh hk hd
     rw [if_neg (by decide)]
     have hc2 : ls 2 = true := hbh.ready 2 (by decide)
     have hc9 : ls 9 = false := Bool.eq_false_iff.2 fun hq => absurd (hbh.closed 8 _ rfl (hbh.closed 9 _ rfl (hq) 8 (by decide)) 7 (by decide)) (by rw [hbh.notyet]; decide)
     have hc10 : ls 10 = false := Bool.eq_false_iff.2 fun hq => absurd (hbh.closed 10 _ rfl (hq) 7 (by decide)) (by rw [hbh.notyet]; decide)
     have hst := hS
     rw [show stage [2, 9, 10] ls = 1 from by simp [stage, List.filter, hc2, hc9, hc10]] at hst
     clear hc2 hc9 hc10 hS hbh
     have e4 : ev (.tmp 4) = .pointer (some ⟨M, 0, none⟩) := hk 4 (by decide)
     clear hk hd
     exact Yield.op (v := .pointer (some ⟨M, 0, none⟩)) (w' := wy) (by simp [execOp, go_sem, e4]) ⟨(LB.refl _ _), rfl⟩
   · intro ev wy ls hp hl hS hbh hk hd
     rw [if_neg (by decide)]
     have hc2 : ls 2 = true := hbh.ready 2 (by decide)
     have hc9 : ls 9 = false := Bool.eq_false_iff.2 fun hq => absurd (hbh.closed 9 _ rfl (hq) 8 (by decide)) (by rw [hbh.notyet]; decide)
     have hc10 : ls 10 = false := Bool.eq_false_iff.2 fun hq => absurd (hbh.closed 10 _ rfl (hq) 8 (by decide)) (by rw [hbh.notyet]; decide)
     have hst := hS
     rw [show stage [2, 9, 10] ls = 1 from by simp [stage, List.filter, hc2, hc9, hc10]] at hst
     clear hc2 hc9 hc10 hS hbh
     have e10 : ev (.tmp 10) = .pointer (some ⟨M, 0, none⟩) := hk 10 (by decide)
     clear hk hd
     exact Yield.op (v := .pointer (some ⟨M, 7, none⟩)) (w' := wy) (by simp [execOp, go_sem, e10]) ⟨(LB.refl _ _), rfl⟩
   · intro ev wy ls hp hl hS hbh hk hd
     rw [if_pos (by decide)]
     have hc2 : ls 2 = true := hbh.ready 2 (by decide)
     have hc9 : ls 9 = false := hbh.notyet
     have hc10 : ls 10 = false := Bool.eq_false_iff.2 fun hq => absurd (hbh.closed 10 _ rfl (hq) 9 (by decide)) (by rw [hbh.notyet]; decide)
     have hst := hS
     rw [show stage [2, 9, 10] ls = 1 from by simp [stage, List.filter, hc2, hc9, hc10]] at hst
     have hup : stage [2, 9, 10] (upd ls 9) = 2 := by simp [stage, List.filter, upd, hc2, hc9, hc10]
     clear hc2 hc9 hc10 hS hbh
     have e11 : ev (.tmp 11) = .pointer (some ⟨M, 7, none⟩) := hk 11 (by decide)
     have f8 : (fun (v : Value) (w : World) => RowRec w v (decRec4 (Crc.cutOf (x.s.text 65536).2))) (ev (.tmp 8)) wy := hk 8 (by decide)
     generalize hx8 : ev (.tmp 8) = x8 at *
     clear hk hd
     obtain ⟨t, hx, hk⟩ := f8
     obtain ⟨z1, z2, z3, z4⟩ := DF.st_reco hst (decRec4 (Crc.cutOf (x.s.text 65536).2)) t hk
     exact Yield.stores rfl e11 (hx8.trans hx) z1 ⟨⟨z3, DF.mbM hst z4⟩, rfl, by rw [hup]; exact z2⟩
   · intro ev wy ls hp hl hS hbh hk hd
     rw [if_pos (by decide)]
     have hc2 : ls 2 = true := hbh.ready 2 (by decide)
     have hc9 : ls 9 = true := hbh.ready 9 (by decide)
     have hc10 : ls 10 = false := hbh.notyet
     have hst := hS
     rw [show stage [2, 9, 10] ls = 2 from by simp [stage, List.filter, hc2, hc9, hc10]] at hst
     have hup : stage [2, 9, 10] (upd ls 10) = 3 := by simp [stage, List.filter, upd, hc2, hc9, hc10]
     clear hc2 hc9 hc10 hS hbh
     have e2 : ev (.tmp 2) = .pointer (some ⟨E, 0, none⟩) := hk 2 (by decide)
     have e9 : ev (.tmp 9) = .int .i64 (decErr4 (Crc.cutOf (x.s.text 65536).2)) := hk 9 (by decide)
     clear hk hd
     obtain ⟨z1, z2⟩ := DF.errs hst (decErr4 (Crc.cutOf (x.s.text 65536).2))
     exact Yield.stores rfl e2 e9 (DF.stE hst _) ⟨⟨z2, DF.mbS hst (butSet _ _ _ _)⟩, rfl, by rw [hup]; exact z1⟩
 · decide
 · intro vals wz hz hS hv
   have g4 : vals 0 = .pointer (some ⟨M, 0, none⟩) := hv 0 (by decide)
   have g5 : vals 1 = .func (.func 93) #[] #[.pointer (some ⟨R, 0, none⟩)] := hv 1 (by decide)
   have g6 : (fun (v : Value) (w : World) => BO w v (x.s.text 65536).2) (vals 2) wz := hv 2 (by decide)
   have g7 : (fun (v : Value) (w : World) => ∃ u, v = .tuple #[u, .int .i64 (decErr4 (Crc.cutOf (x.s.text 65536).2))] ∧ RowRec w u (decRec4 (Crc.cutOf (x.s.text 65536).2))) (vals 3) wz := hv 3 (by decide)
   have g3 : (fun (v : Value) (w : World) => ∃ u, v = .tuple #[u, .int .i64 (decErr4 (Crc.cutOf (x.s.text 65536).2))] ∧ RowRec w u (decRec4 (Crc.cutOf (x.s.text 65536).2))) (vals 4) wz := hv 4 (by decide)
   have g8 : (fun (v : Value) (w : World) => RowRec w v (decRec4 (Crc.cutOf (x.s.text 65536).2))) (vals 5) wz := hv 5 (by decide)
   have g9 : vals 6 = .int .i64 (decErr4 (Crc.cutOf (x.s.text 65536).2)) := hv 6 (by decide)
   have g10 : vals 7 = .pointer (some ⟨M, 0, none⟩) := hv 7 (by decide)
   have g11 : vals 8 = .pointer (some ⟨M, 7, none⟩) := hv 8 (by decide)
   have gn9 : vals 9 = undef := hv 9 (by decide)
   have gn10 : vals 10 = undef := hv 10 (by decide)
   clear hv
   simp only [putAll, Act.put, List.setIfInBounds_toArray, List.set_cons_zero, List.set_cons_succ, g4, g5, g9, g10, g11]
   clear g4
   clear g5
   generalize vals 2 = v6 at *
   generalize vals 3 = v7 at *
   generalize vals 4 = v3 at *
   generalize vals 5 = v8 at *
   clear g9
   clear g10
   clear g11
   clear gn9
   clear gn10
   go_wp2_with fail
   go_end0
   exact ⟨rfl, hS⟩
set_option maxHeartbeats 4000000 in
theorem take_rdConf (w : World) (h : DF w0 p M R MB E TX x w) : Calls Tryz.prog 105 #[.pointer (some ⟨TX, 0, none⟩), .pointer (some ⟨MB, 0, none⟩), .pointer (some ⟨E, 0, none⟩)] w fun e w' => e = .returned (.tuple #[]) ∧ DF w0 p M R MB E TX (rdConf x) w' := by
 have HD := Lib.hid h
 have HM := Lib.hid (show ∀ wy, KB MB w wy → (Instr.loadAt 85 (.pointer (some ⟨MB, 0, none⟩))).run Tryz.prog wy = .ok (.pointer (some ⟨M, 0, none⟩)) wy from fun wy hk => h.ldM' hk.2)
 have HL := Lib.hid (text_len x.s (by omega))
 clear h
 go_enter Tryz.func105, Tryz.ntmps105
 go_wp2_with fail
 have h := HD.out
 refine wp_region_marked (by kernel_rfl) (LB MB) (KB MB) (fun iop v w => match iop with
  | 0 => v = .pointer (some ⟨M, 0, none⟩)
  | 1 => v = .func (.func 93) #[] #[.pointer (some ⟨R, 0, none⟩)]
  | 2 => BO w v (x.s.text 65536).2
  | 3 => ∃ u, v = .tuple #[u, .int .i64 (Term.errOf (Term.dec (x.s.text 65536).2))] ∧ RowConf w u (Term.confOf (Term.dec (x.s.text 65536).2))
  | 4 => ∃ u, v = .tuple #[u, .int .i64 (Term.errOf (Term.dec (x.s.text 65536).2))] ∧ RowConf w u (Term.confOf (Term.dec (x.s.text 65536).2))
  | 5 => RowConf w v (Term.confOf (Term.dec (x.s.text 65536).2))
  | 6 => v = .int .i64 (Term.errOf (Term.dec (x.s.text 65536).2))
  | 7 => v = .pointer (some ⟨M, 0, none⟩)
  | 8 => v = .pointer (some ⟨M, 19, none⟩)
  | 9 => v = undef
  | _ => v = undef
  ) [2, 9, 10] (stg (DF w0 p M R MB E TX x) (DF w0 p M R MB E TX ⟨x.m, x.err, (x.s.text 65536).1⟩) (DF w0 p M R MB E TX ⟨{ x.m with conf := Term.confOf (Term.dec (x.s.text 65536).2) }, x.err, (x.s.text 65536).1⟩) (DF w0 p M R MB E TX (rdConf x))) (by kernel_rfl) (fun _ _ _ h k => KB.trans h k) (fun a => LB.refl MB a) (fun _ _ h => LB.k h) (fun k a b h hs => stg.keep k a b h hs) (⟨Ext.drew _, rfl⟩) h ?_ ?_ ?_ ?_
 · intro iop v wa wb hF hL
   iterate 2 (rcases iop with _ | iop; exact hF)
   iterate 4 (rcases iop with _ | iop; (first | exact hF | exact hL.1.b _ _ hF | (obtain ⟨u, h1, t, h2, h3⟩ := hF; exact ⟨u, h1, t, h2, hL.1.i _ _ h3⟩) | (obtain ⟨t, h2, h3⟩ := hF; exact ⟨t, h2, hL.1.i _ _ h3⟩) | (obtain ⟨u, h1, t, d, h2, h3, h4⟩ := hF; exact ⟨u, h1, t, d, h2, hL.1.i _ _ h3, hL.1.r _ _ h4⟩) | (obtain ⟨t, d, h2, h3, h4⟩ := hF; exact ⟨t, d, h2, hL.1.i _ _ h3, hL.1.r _ _ h4⟩)))
   iterate 4 (rcases iop with _ | iop; exact hF)
   exact hF
 · refine Obls2.cons ?_ (Obls2.cons ?_ (Obls2.cons ?_ (Obls2.cons ?_ (Obls2.cons ?_ (Obls2.cons ?_ (Obls2.cons ?_ (Obls2.cons ?_ (Obls2.cons ?_ (Obls2.cons ?_ (Obls2.cons ?_ (Obls2.nil)))))))))))
   · intro ev wy ls hp hl hS hbh hk hd
     rw [if_neg (by decide)]
     clear hS hbh
     have e1 : ev (.tmp 1) = .pointer (some ⟨MB, 0, none⟩) := hk 1 (by decide)
     clear hk hd
     exact Yield.load rfl e1 (HM.out wy hl) ⟨LB.refl _ _, rfl⟩
   · intro ev wy ls hp hl hS hbh hk hd
     rw [if_neg (by decide)]
     have hc2 : ls 2 = false := Bool.eq_false_iff.2 fun hq => absurd (hbh.closed 2 _ rfl (hq) 1 (by decide)) (by rw [hbh.notyet]; decide)
     have hc9 : ls 9 = false := Bool.eq_false_iff.2 fun hq => absurd (hbh.closed 9 _ rfl (hq) 1 (by decide)) (by rw [hbh.notyet]; decide)
     have hc10 : ls 10 = false := Bool.eq_false_iff.2 fun hq => absurd (hbh.closed 10 _ rfl (hq) 1 (by decide)) (by rw [hbh.notyet]; decide)
     have hst := hS
     rw [show stage [2, 9, 10] ls = 0 from by simp [stage, List.filter, hc2, hc9, hc10]] at hst
     clear hc2 hc9 hc10 hS hbh
     have e0 : ev (.tmp 0) = .pointer (some ⟨TX, 0, none⟩) := hk 0 (by decide)
     clear hk hd
     exact Yield.load rfl e0 (DF.ldT hst) ⟨LB.refl _ _, rfl⟩
   · intro ev wy ls hp hl hS hbh hk hd
     rw [if_pos (by decide)]
     have hc2 : ls 2 = false := hbh.notyet
     have hc9 : ls 9 = false := Bool.eq_false_iff.2 fun hq => absurd (hbh.closed 9 _ rfl (hq) 2 (by decide)) (by rw [hbh.notyet]; decide)
     have hc10 : ls 10 = false := Bool.eq_false_iff.2 fun hq => absurd (hbh.closed 10 _ rfl (hq) 2 (by decide)) (by rw [hbh.notyet]; decide)
     have hst := hS
     rw [show stage [2, 9, 10] ls = 0 from by simp [stage, List.filter, hc2, hc9, hc10]] at hst
     have hup : stage [2, 9, 10] (upd ls 2) = 1 := by simp [stage, List.filter, upd, hc2, hc9, hc10]
     clear hc2 hc9 hc10 hS hbh
     have e5 : ev (.tmp 5) = .func (.func 93) #[] #[.pointer (some ⟨R, 0, none⟩)] := hk 5 (by decide)
     clear hk
     refine Yield.callf rfl e5 Tryz.func93 rfl (by kernel_rfl) ?_
     simp only [List.map_toArray, List.map_cons, List.map_nil, List.append_toArray, List.nil_append]
     exact (takeText7 wy hst).mono fun e w' ⟨u, he, hb, hd, hk⟩ => ⟨u, he, hk, hb, by rw [hup]; exact hd⟩
   · intro ev wy ls hp hl hS hbh hk hd
     rw [if_neg (by decide)]
     have hc2 : ls 2 = true := hbh.ready 2 (by decide)
     have hc9 : ls 9 = false := Bool.eq_false_iff.2 fun hq => absurd (hbh.closed 9 _ rfl (hq) 3 (by decide)) (by rw [hbh.notyet]; decide)
     have hc10 : ls 10 = false := Bool.eq_false_iff.2 fun hq => absurd (hbh.closed 10 _ rfl (hq) 3 (by decide)) (by rw [hbh.notyet]; decide)
     have hst := hS
     rw [show stage [2, 9, 10] ls = 1 from by simp [stage, List.filter, hc2, hc9, hc10]] at hst
     clear hc2 hc9 hc10 hS hbh
     have f6 : (fun (v : Value) (w : World) => BO w v (x.s.text 65536).2) (ev (.tmp 6)) wy := hk 6 (by decide)
     generalize hx6 : ev (.tmp 6) = x6 at *
     clear hk hd
     refine Yield.call rfl hp Tryz.func106 rfl (by kernel_rfl) ?_
     simp only [List.map_toArray, List.map_cons, List.map_nil, hx6]
     exact (decode6_row x6 (x.s.text 65536).2 wy f6.1 (by have := HL.out; omega)).mono fun e w' ⟨u, he, hr, hE⟩ => ⟨_, he, ⟨hE, DF.mbE hst hE⟩, u, rfl, hr⟩
   · intro ev wy ls hp hl hS hbh hk hd
     rw [if_neg (by decide)]
     have hc2 : ls 2 = true := hbh.closed 3 _ rfl (hbh.ready 3 (by decide)) 2 (by decide)
     have hc9 : ls 9 = false := Bool.eq_false_iff.2 fun hq => absurd (hbh.closed 9 _ rfl (hq) 4 (by decide)) (by rw [hbh.notyet]; decide)
     have hc10 : ls 10 = false := Bool.eq_false_iff.2 fun hq => absurd (hbh.closed 10 _ rfl (hq) 4 (by decide)) (by rw [hbh.notyet]; decide)
     have hst := hS
     rw [show stage [2, 9, 10] ls = 1 from by simp [stage, List.filter, hc2, hc9, hc10]] at hst
     clear hc2 hc9 hc10 hS hbh
     have f7 : (fun (v : Value) (w : World) => ∃ u, v = .tuple #[u, .int .i64 (Term.errOf (Term.dec (x.s.text 65536).2))] ∧ RowConf w u (Term.confOf (Term.dec (x.s.text 65536).2))) (ev (.tmp 7)) wy := hk 7 (by decide)
     generalize hx7 : ev (.tmp 7) = x7 at *
     clear hk hd
     exact Yield.mv rfl ⟨(LB.refl _ _), by rw [hx7]; exact f7⟩
   · intro ev wy ls hp hl hS hbh hk hd
     rw [if_neg (by decide)]
     have hc2 : ls 2 = true := hbh.closed 3 _ rfl (hbh.closed 4 _ rfl (hbh.ready 4 (by decide)) 3 (by decide)) 2 (by decide)
     have hc9 : ls 9 = false := Bool.eq_false_iff.2 fun hq => absurd (hbh.closed 9 _ rfl (hq) 5 (by decide)) (by rw [hbh.notyet]; decide)
     have hc10 : ls 10 = false := Bool.eq_false_iff.2 fun hq => absurd (hbh.closed 10 _ rfl (hq) 5 (by decide)) (by rw [hbh.notyet]; decide)
     have hst := hS
     rw [show stage [2, 9, 10] ls = 1 from by simp [stage, List.filter, hc2, hc9, hc10]] at hst
     clear hc2 hc9 hc10 hS hbh
     have f3 : (fun (v : Value) (w : World) => ∃ u, v = .tuple #[u, .int .i64 (Term.errOf (Term.dec (x.s.text 65536).2))] ∧ RowConf w u (Term.confOf (Term.dec (x.s.text 65536).2))) (ev (.tmp 3)) wy := hk 3 (by decide)
     generalize hx3 : ev (.tmp 3) = x3 at *
     clear hk hd
     obtain ⟨u, hu, hr⟩ := f3
     exact Yield.op (v := u) (w' := wy) (by simp [execOp, go_sem, hx3, hu]) ⟨LB.refl _ _, hr⟩
   · intro ev wy ls hp hl hS hbh hk hd
     rw [if_neg (by decide)]
     clear hS hbh
     have f3 : (fun (v : Value) (w : World) => ∃ u, v = .tuple #[u, .int .i64 (Term.errOf (Term.dec (x.s.text 65536).2))] ∧ RowConf w u (Term.confOf (Term.dec (x.s.text 65536).2))) (ev (.tmp 3)) wy := hk 3 (by decide)
     generalize hx3 : ev (.tmp 3) = x3 at *
     clear hk hd
     obtain ⟨u, hu, hr⟩ := f3
     exact Yield.op (w' := wy) (by simp [execOp, go_sem, hx3, hu]) ⟨LB.refl _ _, rfl⟩
   · intro ev wy ls hp hl hS hbh hk hd
     rw [if_neg (by decide)]
     have hc2 : ls 2 = true := hbh.ready 2 (by decide)
     have hc9 : ls 9 = false := Bool.eq_false_iff.2 fun hq => absurd (hbh.closed 8 _ rfl (hbh.closed 9 _ rfl (hq) 8 (by decide)) 7 (by decide)) (by rw [hbh.notyet]; decide)
     have hc10 : ls 10 = false := Bool.eq_false_iff.2 fun hq => absurd (hbh.closed 10 _ rfl (hq) 7 (by decide)) (by rw [hbh.notyet]; decide)
     have hst := hS
     rw [show stage [2, 9, 10] ls = 1 from by simp [stage, List.filter, hc2, hc9, hc10]] at hst
     clear hc2 hc9 hc10 hS hbh
     have e4 : ev (.tmp 4) = .pointer (some ⟨M, 0, none⟩) := hk 4 (by decide)
     clear hk hd
     exact Yield.op (v := .pointer (some ⟨M, 0, none⟩)) (w' := wy) (by simp [execOp, go_sem, e4]) ⟨(LB.refl _ _), rfl⟩
   · intro ev wy ls hp hl hS hbh hk hd
     rw [if_neg (by decide)]
     have hc2 : ls 2 = true := hbh.ready 2 (by decide)
     have hc9 : ls 9 = false := Bool.eq_false_iff.2 fun hq => absurd (hbh.closed 9 _ rfl (hq) 8 (by decide)) (by rw [hbh.notyet]; decide)
     have hc10 : ls 10 = false := Bool.eq_false_iff.2 fun hq => absurd (hbh.closed 10 _ rfl (hq) 8 (by decide)) (by rw [hbh.notyet]; decide)
     have hst := hS
     rw [show stage [2, 9, 10] ls = 1 from by simp [stage, List.filter, hc2, hc9, hc10]] at hst
     clear hc2 hc9 hc10 hS hbh
     have e10 : ev (.tmp 10) = .pointer (some ⟨M, 0, none⟩) := hk 10 (by decide)
     clear hk hd
     exact Yield.op (v := .pointer (some ⟨M, 19, none⟩)) (w' := wy) (by simp [execOp, go_sem, e10]) ⟨(LB.refl _ _), rfl⟩
   · intro ev wy ls hp hl hS hbh hk hd
     rw [if_pos (by decide)]
     have hc2 : ls 2 = true := hbh.ready 2 (by decide)
     have hc9 : ls 9 = false := hbh.notyet
     have hc10 : ls 10 = false := Bool.eq_false_iff.2 fun hq => absurd (hbh.closed 10 _ rfl (hq) 9 (by decide)) (by rw [hbh.notyet]; decide)
     have hst := hS
     rw [show stage [2, 9, 10] ls = 1 from by simp [stage, List.filter, hc2, hc9, hc10]] at hst
     have hup : stage [2, 9, 10] (upd ls 9) = 2 := by simp [stage, List.filter, upd, hc2, hc9, hc10]
     clear hc2 hc9 hc10 hS hbh
     have e11 : ev (.tmp 11) = .pointer (some ⟨M, 19, none⟩) := hk 11 (by decide)
     have f8 : (fun (v : Value) (w : World) => RowConf w v (Term.confOf (Term.dec (x.s.text 65536).2))) (ev (.tmp 8)) wy := hk 8 (by decide)
     generalize hx8 : ev (.tmp 8) = x8 at *
     clear hk hd
     obtain ⟨t, d, hx, hk, hk2⟩ := f8
     obtain ⟨z1, z2, z3, z4⟩ := DF.st_conf hst (Term.confOf (Term.dec (x.s.text 65536).2)) t d hk hk2
     exact Yield.stores rfl e11 (hx8.trans hx) z1 ⟨⟨z3, DF.mbM hst z4⟩, rfl, by rw [hup]; exact z2⟩
   · intro ev wy ls hp hl hS hbh hk hd
     rw [if_pos (by decide)]
     have hc2 : ls 2 = true := hbh.ready 2 (by decide)
     have hc9 : ls 9 = true := hbh.ready 9 (by decide)
     have hc10 : ls 10 = false := hbh.notyet
     have hst := hS
     rw [show stage [2, 9, 10] ls = 2 from by simp [stage, List.filter, hc2, hc9, hc10]] at hst
     have hup : stage [2, 9, 10] (upd ls 10) = 3 := by simp [stage, List.filter, upd, hc2, hc9, hc10]
     clear hc2 hc9 hc10 hS hbh
     have e2 : ev (.tmp 2) = .pointer (some ⟨E, 0, none⟩) := hk 2 (by decide)
     have e9 : ev (.tmp 9) = .int .i64 (Term.errOf (Term.dec (x.s.text 65536).2)) := hk 9 (by decide)
     clear hk hd
     obtain ⟨z1, z2⟩ := DF.errs hst (Term.errOf (Term.dec (x.s.text 65536).2))
     exact Yield.stores rfl e2 e9 (DF.stE hst _) ⟨⟨z2, DF.mbS hst (butSet _ _ _ _)⟩, rfl, by rw [hup]; exact z1⟩
 · decide
 · intro vals wz hz hS hv
   have g4 : vals 0 = .pointer (some ⟨M, 0, none⟩) := hv 0 (by decide)
   have g5 : vals 1 = .func (.func 93) #[] #[.pointer (some ⟨R, 0, none⟩)] := hv 1 (by decide)
   have g6 : (fun (v : Value) (w : World) => BO w v (x.s.text 65536).2) (vals 2) wz := hv 2 (by decide)
   have g7 : (fun (v : Value) (w : World) => ∃ u, v = .tuple #[u, .int .i64 (Term.errOf (Term.dec (x.s.text 65536).2))] ∧ RowConf w u (Term.confOf (Term.dec (x.s.text 65536).2))) (vals 3) wz := hv 3 (by decide)
   have g3 : (fun (v : Value) (w : World) => ∃ u, v = .tuple #[u, .int .i64 (Term.errOf (Term.dec (x.s.text 65536).2))] ∧ RowConf w u (Term.confOf (Term.dec (x.s.text 65536).2))) (vals 4) wz := hv 4 (by decide)
   have g8 : (fun (v : Value) (w : World) => RowConf w v (Term.confOf (Term.dec (x.s.text 65536).2))) (vals 5) wz := hv 5 (by decide)
   have g9 : vals 6 = .int .i64 (Term.errOf (Term.dec (x.s.text 65536).2)) := hv 6 (by decide)
   have g10 : vals 7 = .pointer (some ⟨M, 0, none⟩) := hv 7 (by decide)
   have g11 : vals 8 = .pointer (some ⟨M, 19, none⟩) := hv 8 (by decide)
   have gn9 : vals 9 = undef := hv 9 (by decide)
   have gn10 : vals 10 = undef := hv 10 (by decide)
   clear hv
   simp only [putAll, Act.put, List.setIfInBounds_toArray, List.set_cons_zero, List.set_cons_succ, g4, g5, g9, g10, g11]
   clear g4
   clear g5
   generalize vals 2 = v6 at *
   generalize vals 3 = v7 at *
   generalize vals 4 = v3 at *
   generalize vals 5 = v8 at *
   clear g9
   clear g10
   clear g11
   clear gn9
   clear gn10
   go_wp2_with fail
   go_end0
   exact ⟨rfl, hS⟩
end
end Go.Proofs.YtldfpklgbedgjaaGreat
