/-
 Merged: Layer 7, the program: the fields behind the head, each if the kind has it.
-/
import Derived.Test.YtldfpklgbedgjaaGreatBrEnt
import Derived.Test.YtldfpklgbedgjaaGreatBrRec
import Derived.Test.YtldfpklgbedgjaaGreatBrTerm
import Derived.Test.YtldfpklgbedgjaaGreatMsgC
namespace Go.Proofs.YtldfpklgbedgjaaGreat
set_option linter.unusedSimpArgs false
set_option linter.unusedVariables false
set_option maxRecDepth 100000
open Go.RowKit
structure AF (w0 : World) (P Q : Nat) (m : Msg.M) (rt et sv dv : Value) (l : List UInt8) (w : World) : Prop where
 at_ : MsgAt 45 w Q m rt et sv dv
 cell : ∃ a n c, w.heap[P]? = some (.cells #[.slice a n c] 38 (0, 0)) ∧ Bytes w (.slice a n c) l
 low : Below w0.heap.size w0 w
 hP : w0.heap.size ≤ P
 hQ : w0.heap.size ≤ Q
 hne : Q ≠ P
theorem AF.ext {w0 w w' : World} {P Q : Nat} {m : Msg.M} {rt et sv dv : Value} {l : List UInt8} (h : AF w0 P Q m rt et sv dv l w) (hE : Ext w w') : AF w0 P Q m rt et sv dv l w' := by
 obtain ⟨h1, ⟨a, n, c, h2, h3⟩, h4, h5, h6, h7⟩ := h
 exact ⟨h1.ext hE, ⟨a, n, c, (hE.block P (Array.getElem?_eq_some_iff.1 h2).1).trans h2, h3.below hE⟩, h4.trans (Below.mono hE (by have := h1.lt; omega)), h5, h6, h7⟩
theorem AF.store {w0 w : World} {P Q base : Nat} {m : Msg.M} {rt et sv dv u : Value} {l l' : List UInt8} (h : AF w0 P Q m rt et sv dv l w) (ho : Own w base u l') : AF w0 P Q m rt et sv dv l' (w.setCell ⟨P, 0, none⟩ u) := by
 obtain ⟨h1, ⟨a, n, c, h2, h3⟩, h4, h5, h6, h7⟩ := h
 have hB := butSet w P 0 u
 have hS := heap_setCell h2 0 u
 obtain ⟨a', n', c', rfl⟩ := ho.isSlice
 refine ⟨h1.but hB h7, ⟨a', n', c', hS, ?_⟩, h4.trans (hB.below h5 (by have := h1.lt; omega)), h5, h6, h7⟩
 exact Own.bytes (base := base) (rowBut ho (rowBeside ho h2 (by decide)) hB)
theorem textOf7_le {l : List UInt8} (h : l.length ≤ 60000) : (Msg.textOf l).length ≤ 60009 := by have := Msg.textOf_le (l := l) (by omega); omega
theorem nums7 (n : Int) : nums [n] = Msg.num n := by simp [nums]; rfl
theorem ok7 {n : Int} (h : 0 ≤ n ∧ n ≤ 1099511627776) : [n].all okNum = true := by
 simp only [List.all_cons, List.all_nil, Bool.and_true]
 exact okNumOf (by omega)
theorem Ints.new1 (w : World) (n : Int) : Ints (w.alloc (.cells #[.int .i64 n] 3)) (.slice (some ⟨w.heap.size, 0, none⟩) 1 1) [n] := Ints.one w n
set_option maxHeartbeats 8000000 in
theorem add7_any (f n : Int) (u : Value) (w0 w : World) (P Q : Nat) (m : Msg.M) (rt et sv dv : Value) (l : List UInt8) (h : AF w0 P Q m rt et sv dv l w) (hu : Ints w u [n]) (hn : 0 ≤ n ∧ n ≤ 1099511627776) (hl : l.length ≤ 1000000) :
 Calls Tryz.prog 62 #[.int .i64 f, u, .pointer (some ⟨Q, 0, none⟩), .pointer (some ⟨P, 0, none⟩)] w fun e w' => e = .returned (.tuple #[]) ∧ AF w0 P Q m rt et sv dv (l ++ cond (hasBit (mask m) f) (Msg.num n) []) w' := by
 have HA := Lib.hid h
 have HU := Lib.hid hu
 have HN := Lib.hid hn
 clear h hu hn
 cases hb : hasBit (mask m) f with
 | false =>
  have hbb : (bits .and .i64 (mask m) f != 0) = false := hb
  go_enter Tryz.func62, Tryz.ntmps62
  go_wp2_with (refine ldA (by rfl) _ rfl rfl HA.out.at_ ?_)
  refine (fieldsOf_flat m rt et sv dv _).mono ?_
  rintro e w1 ⟨rfl, hE1⟩
  go_wp2_with fail
  go_end0
  exact ⟨rfl, by rw [show cond false (Msg.num n) [] = [] from rfl, List.append_nil]; exact HA.out.ext hE1⟩
 | true =>
  have hbb : (bits .and .i64 (mask m) f != 0) = true := hb
  go_enter Tryz.func62, Tryz.ntmps62
  go_wp2_with (refine ldA (by rfl) _ rfl rfl HA.out.at_ ?_)
  refine (fieldsOf_flat m rt et sv dv _).mono ?_
  rintro e w1 ⟨rfl, hE1⟩
  have HA1 := Lib.hid (HA.out.ext hE1)
  obtain ⟨a, k, c, hh, hby⟩ := HA1.out.cell
  have HB := Lib.hid hby
  have cP := cell_of_heap hh 0
  simp only [List.getElem?_toArray, List.getElem?_cons_zero] at cP
  clear hh hby
  go_wp2_with fail
  refine (packNum_any _ u l [n] _ HB.out (HU.out.below hE1) (by omega) (by simp)).mono ?_
  rw [ok7 HN.out, if_pos rfl]
  rintro e w2 ⟨u2, rfl, ho2, hE2⟩
  have HA2 := Lib.hid (HA1.out.ext hE2)
  have HO2 := Lib.hid ho2
  obtain ⟨a', k', c', hh, hby⟩ := HA2.out.cell
  have cP2 := cell_of_heap hh 0
  have fP2 := frozen_of_heap hh 0
  simp only [List.getElem?_toArray, List.getElem?_cons_zero] at cP2
  obtain ⟨ua, un, uc, rfl⟩ := ho2.isSlice
  clear hh hby ho2 cP
  go_wp2_with fail
  go_end0
  exact ⟨rfl, by rw [show cond true (Msg.num n) [] = Msg.num n from rfl, ← nums7]; exact HA2.out.store HO2.out⟩
set_option maxHeartbeats 8000000 in
theorem enc7_ent (w0 w : World) (P Q : Nat) (m : Msg.M) (rt et sv dv : Value) (l : List UInt8) (h : AF w0 P Q m rt et sv dv l w) (h2 : Ints w0 et m.ent.cut) (hr : Ent.right m.ent = true) :
 Calls Tryz.prog 65 #[.pointer (some ⟨Q, 0, none⟩)] w fun e w' => ∃ u, e = .returned (.tuple #[u, .int .i64 0]) ∧ Own w' w.heap.size u (Ent.enc m.ent) ∧ Ext w w' := by
 have HA := Lib.hid h
 have HR := Lib.hid hr
 obtain ⟨xa, xn, xc, rfl⟩ := intsSlice h2
 have HI := Lib.hid (show IsEnt w (.agg #[.int .i64 m.ent.number, .int .i64 m.ent.kind, (.slice xa xn xc), .int .i64 m.ent.tag, .int .i64 m.ent.term, .int .i64 m.ent.pos]) m.ent from ⟨_, rfl, h2.below HA.out.low⟩)
 obtain ⟨P0, P1, P2, P3, P4, P5⟩ := HA.out.at_.ent
 clear h hr h2
 go_enter Tryz.func65, Tryz.ntmps65
 go_wp2_with fail
 refine (encode5_own _ m.ent _ (HI.out) HR.out).mono ?_
 rintro e w1 ⟨u, rfl, ho, hE⟩
 go_wp2_with fail
 go_ret2
 exact ⟨_, rfl, ho, hE⟩
set_option maxHeartbeats 8000000 in
theorem enc7_reco (w0 w : World) (P Q : Nat) (m : Msg.M) (rt et sv dv : Value) (l : List UInt8) (h : AF w0 P Q m rt et sv dv l w) (h2 : Ints w0 rt m.reco.tags) (hr : Rec.right m.reco = true) :
 Calls Tryz.prog 68 #[.pointer (some ⟨Q, 0, none⟩)] w fun e w' => ∃ u, e = .returned (.tuple #[u, .int .i64 0]) ∧ Own w' w.heap.size u (Rec.enc m.reco) ∧ Ext w w' := by
 have HA := Lib.hid h
 have HR := Lib.hid hr
 obtain ⟨xa, xn, xc, rfl⟩ := intsSlice h2
 have HI := Lib.hid (show IsRec w (.agg #[.int .i64 m.reco.client, .int .i64 m.reco.number, (.slice xa xn xc), .string ⟨m.reco.data.toArray⟩]) m.reco from ⟨_, rfl, h2.below HA.out.low⟩)
 obtain ⟨P0, P1, P2, P3⟩ := HA.out.at_.reco
 clear h hr h2
 go_enter Tryz.func68, Tryz.ntmps68
 go_wp2_with fail
 refine (encode4_own _ m.reco _ HR.out (HI.out)).mono ?_
 rintro e w1 ⟨u, rfl, ho, hE⟩
 go_wp2_with fail
 go_ret2
 exact ⟨_, rfl, ho, hE⟩
set_option maxHeartbeats 8000000 in
theorem enc7_conf (w0 w : World) (P Q : Nat) (m : Msg.M) (rt et sv dv : Value) (l : List UInt8) (h : AF w0 P Q m rt et sv dv l w) (h2 : Ints w0 sv m.conf.seqs) (h3 : IRows w0 dv m.conf.shards) (hr : Term.right m.conf = true) :
 Calls Tryz.prog 70 #[.pointer (some ⟨Q, 0, none⟩)] w fun e w' => ∃ u, e = .returned (.tuple #[u, .int .i64 0]) ∧ Own w' w.heap.size u (Term.enc m.conf) ∧ Ext w w' := by
 have HA := Lib.hid h
 have HR := Lib.hid hr
 obtain ⟨xa, xn, xc, rfl⟩ := intsSlice h2
 obtain ⟨ya, yn, yc, rfl⟩ := irowsSlice h3
 have HI := Lib.hid (show IsConf w (.agg #[.int .i64 m.conf.term, (.slice xa xn xc), (.slice ya yn yc)]) m.conf from ⟨_, _, rfl, h2.below HA.out.low, h3.below HA.out.low⟩)
 obtain ⟨P0, P1, P2⟩ := HA.out.at_.conf
 clear h hr h2 h3
 go_enter Tryz.func70, Tryz.ntmps70
 go_wp2_with fail
 refine (encode6_own _ m.conf _ (HI.out) HR.out).mono ?_
 rintro e w1 ⟨u, rfl, ho, hE⟩
 go_wp2_with fail
 go_ret2
 exact ⟨_, rfl, ho, hE⟩
set_option maxHeartbeats 8000000 in
theorem addText7_ent (w0 w : World) (P Q : Nat) (m : Msg.M) (rt et sv dv : Value) (l : List UInt8) (h : AF w0 P Q m rt et sv dv l w) (h2 : Ints w0 et m.ent.cut) (hr : hasBit (mask m) 4 = true → Ent.right m.ent = true) (hl : l.length ≤ 1000000) :
 Calls Tryz.prog 63 #[.int .i64 4, .func (.func 65) #[] #[.pointer (some ⟨Q, 0, none⟩)], .pointer (some ⟨Q, 0, none⟩), .pointer (some ⟨P, 0, none⟩)] w fun e w' => e = .returned (.tuple #[]) ∧ AF w0 P Q m rt et sv dv (l ++ cond (hasBit (mask m) 4) (Msg.textOf (Ent.enc m.ent)) []) w' := by
 have HA := Lib.hid h
 have H2 := Lib.hid h2
 have H3 := True.intro
 have HRR := Lib.hid hr
 clear h hr h2 H3
 cases hb : hasBit (mask m) 4 with
 | false =>
  have hbb : (bits .and .i64 (mask m) 4 != 0) = false := hb
  go_enter Tryz.func63, Tryz.ntmps63
  go_wp2_with (refine ldA (by rfl) _ rfl rfl HA.out.at_ ?_)
  refine (fieldsOf_flat m rt et sv dv _).mono ?_
  rintro e w1 ⟨rfl, hE1⟩
  go_wp2_with fail
  go_end0
  exact ⟨rfl, by rw [show cond false (Msg.textOf (Ent.enc m.ent)) [] = [] from rfl, List.append_nil]; exact HA.out.ext hE1⟩
 | true =>
  have hright := HRR.out hb
  have hle := Ent.enc_le hright
  have HR := Lib.hid hright
  have hbb : (bits .and .i64 (mask m) 4 != 0) = true := hb
  go_enter Tryz.func63, Tryz.ntmps63
  go_wp2_with (refine ldA (by rfl) _ rfl rfl HA.out.at_ ?_)
  refine (fieldsOf_flat m rt et sv dv _).mono ?_
  rintro e w1 ⟨rfl, hE1⟩
  have HA1 := Lib.hid (HA.out.ext hE1)
  clear hright
  go_wp2_with fail
  refine (enc7_ent w0 _ P Q m rt et sv dv l HA1.out H2.out HR.out).mono ?_
  rintro e w2 ⟨x2, rfl, ho2, hE2⟩
  have HA2 := Lib.hid (HA1.out.ext hE2)
  obtain ⟨xa, xn, xc, rfl⟩ := ho2.isSlice
  have hcv := run_str (P := Tryz.prog) 38 9 5 Tryz.underlying38 Tryz.underlying5 Tryz.underlying9 ho2.bytes
  obtain ⟨a, k, c, hh, hby⟩ := HA2.out.cell
  have HB := Lib.hid hby
  have cP := cell_of_heap hh 0
  simp only [List.getElem?_toArray, List.getElem?_cons_zero] at cP
  clear hh hby ho2
  obtain ⟨X, hX⟩ : ∃ X, Ent.enc m.ent = X := ⟨_, rfl⟩
  rw [hX] at hcv hle
  have HX := Lib.hid hX
  clear hX
  go_wp2_with fail
  refine (packText_any _ l X _ HB.out (by omega) (by omega)).mono ?_
  rw [if_pos (by omega)]
  rintro e w3 ⟨u3, rfl, ho3, hE3⟩
  have HA3 := Lib.hid (HA2.out.ext hE3)
  have HO3 := Lib.hid ho3
  obtain ⟨a', k', c', hh, hby⟩ := HA3.out.cell
  have cP2 := cell_of_heap hh 0
  have fP2 := frozen_of_heap hh 0
  simp only [List.getElem?_toArray, List.getElem?_cons_zero] at cP2
  obtain ⟨ua, un, uc, rfl⟩ := ho3.isSlice
  clear hh hby ho3 cP hcv
  go_wp2_with fail
  go_end0
  exact ⟨rfl, by rw [HX.out]; exact HA3.out.store HO3.out⟩
set_option maxHeartbeats 8000000 in
theorem addText7_reco (w0 w : World) (P Q : Nat) (m : Msg.M) (rt et sv dv : Value) (l : List UInt8) (h : AF w0 P Q m rt et sv dv l w) (h2 : Ints w0 rt m.reco.tags) (hr : hasBit (mask m) 64 = true → Rec.right m.reco = true) (hl : l.length ≤ 1000000) :
 Calls Tryz.prog 63 #[.int .i64 64, .func (.func 68) #[] #[.pointer (some ⟨Q, 0, none⟩)], .pointer (some ⟨Q, 0, none⟩), .pointer (some ⟨P, 0, none⟩)] w fun e w' => e = .returned (.tuple #[]) ∧ AF w0 P Q m rt et sv dv (l ++ cond (hasBit (mask m) 64) (Msg.textOf (Rec.enc m.reco)) []) w' := by
 have HA := Lib.hid h
 have H2 := Lib.hid h2
 have H3 := True.intro
 have HRR := Lib.hid hr
 clear h hr h2 H3
 cases hb : hasBit (mask m) 64 with
 | false =>
  have hbb : (bits .and .i64 (mask m) 64 != 0) = false := hb
  go_enter Tryz.func63, Tryz.ntmps63
  go_wp2_with (refine ldA (by rfl) _ rfl rfl HA.out.at_ ?_)
  refine (fieldsOf_flat m rt et sv dv _).mono ?_
  rintro e w1 ⟨rfl, hE1⟩
  go_wp2_with fail
  go_end0
  exact ⟨rfl, by rw [show cond false (Msg.textOf (Rec.enc m.reco)) [] = [] from rfl, List.append_nil]; exact HA.out.ext hE1⟩
 | true =>
  have hright := HRR.out hb
  have hle := Rec.enc_le hright
  have HR := Lib.hid hright
  have hbb : (bits .and .i64 (mask m) 64 != 0) = true := hb
  go_enter Tryz.func63, Tryz.ntmps63
  go_wp2_with (refine ldA (by rfl) _ rfl rfl HA.out.at_ ?_)
  refine (fieldsOf_flat m rt et sv dv _).mono ?_
  rintro e w1 ⟨rfl, hE1⟩
  have HA1 := Lib.hid (HA.out.ext hE1)
  clear hright
  go_wp2_with fail
  refine (enc7_reco w0 _ P Q m rt et sv dv l HA1.out H2.out HR.out).mono ?_
  rintro e w2 ⟨x2, rfl, ho2, hE2⟩
  have HA2 := Lib.hid (HA1.out.ext hE2)
  obtain ⟨xa, xn, xc, rfl⟩ := ho2.isSlice
  have hcv := run_str (P := Tryz.prog) 38 9 5 Tryz.underlying38 Tryz.underlying5 Tryz.underlying9 ho2.bytes
  obtain ⟨a, k, c, hh, hby⟩ := HA2.out.cell
  have HB := Lib.hid hby
  have cP := cell_of_heap hh 0
  simp only [List.getElem?_toArray, List.getElem?_cons_zero] at cP
  clear hh hby ho2
  obtain ⟨X, hX⟩ : ∃ X, Rec.enc m.reco = X := ⟨_, rfl⟩
  rw [hX] at hcv hle
  have HX := Lib.hid hX
  clear hX
  go_wp2_with fail
  refine (packText_any _ l X _ HB.out (by omega) (by omega)).mono ?_
  rw [if_pos (by omega)]
  rintro e w3 ⟨u3, rfl, ho3, hE3⟩
  have HA3 := Lib.hid (HA2.out.ext hE3)
  have HO3 := Lib.hid ho3
  obtain ⟨a', k', c', hh, hby⟩ := HA3.out.cell
  have cP2 := cell_of_heap hh 0
  have fP2 := frozen_of_heap hh 0
  simp only [List.getElem?_toArray, List.getElem?_cons_zero] at cP2
  obtain ⟨ua, un, uc, rfl⟩ := ho3.isSlice
  clear hh hby ho3 cP hcv
  go_wp2_with fail
  go_end0
  exact ⟨rfl, by rw [HX.out]; exact HA3.out.store HO3.out⟩
set_option maxHeartbeats 8000000 in
theorem addText7_conf (w0 w : World) (P Q : Nat) (m : Msg.M) (rt et sv dv : Value) (l : List UInt8) (h : AF w0 P Q m rt et sv dv l w) (h2 : Ints w0 sv m.conf.seqs) (h3 : IRows w0 dv m.conf.shards) (hr : hasBit (mask m) 128 = true → Term.right m.conf = true) (hl : l.length ≤ 1000000) :
 Calls Tryz.prog 63 #[.int .i64 128, .func (.func 70) #[] #[.pointer (some ⟨Q, 0, none⟩)], .pointer (some ⟨Q, 0, none⟩), .pointer (some ⟨P, 0, none⟩)] w fun e w' => e = .returned (.tuple #[]) ∧ AF w0 P Q m rt et sv dv (l ++ cond (hasBit (mask m) 128) (Msg.textOf (Term.enc m.conf)) []) w' := by
 have HA := Lib.hid h
 have H2 := Lib.hid h2
 have H3 := Lib.hid h3
 have HRR := Lib.hid hr
 clear h hr h2 h3
 cases hb : hasBit (mask m) 128 with
 | false =>
  have hbb : (bits .and .i64 (mask m) 128 != 0) = false := hb
  go_enter Tryz.func63, Tryz.ntmps63
  go_wp2_with (refine ldA (by rfl) _ rfl rfl HA.out.at_ ?_)
  refine (fieldsOf_flat m rt et sv dv _).mono ?_
  rintro e w1 ⟨rfl, hE1⟩
  go_wp2_with fail
  go_end0
  exact ⟨rfl, by rw [show cond false (Msg.textOf (Term.enc m.conf)) [] = [] from rfl, List.append_nil]; exact HA.out.ext hE1⟩
 | true =>
  have hright := HRR.out hb
  have hle := Term.enc_le hright
  have HR := Lib.hid hright
  have hbb : (bits .and .i64 (mask m) 128 != 0) = true := hb
  go_enter Tryz.func63, Tryz.ntmps63
  go_wp2_with (refine ldA (by rfl) _ rfl rfl HA.out.at_ ?_)
  refine (fieldsOf_flat m rt et sv dv _).mono ?_
  rintro e w1 ⟨rfl, hE1⟩
  have HA1 := Lib.hid (HA.out.ext hE1)
  clear hright
  go_wp2_with fail
  refine (enc7_conf w0 _ P Q m rt et sv dv l HA1.out H2.out H3.out HR.out).mono ?_
  rintro e w2 ⟨x2, rfl, ho2, hE2⟩
  have HA2 := Lib.hid (HA1.out.ext hE2)
  obtain ⟨xa, xn, xc, rfl⟩ := ho2.isSlice
  have hcv := run_str (P := Tryz.prog) 38 9 5 Tryz.underlying38 Tryz.underlying5 Tryz.underlying9 ho2.bytes
  obtain ⟨a, k, c, hh, hby⟩ := HA2.out.cell
  have HB := Lib.hid hby
  have cP := cell_of_heap hh 0
  simp only [List.getElem?_toArray, List.getElem?_cons_zero] at cP
  clear hh hby ho2
  obtain ⟨X, hX⟩ : ∃ X, Term.enc m.conf = X := ⟨_, rfl⟩
  rw [hX] at hcv hle
  have HX := Lib.hid hX
  clear hX
  go_wp2_with fail
  refine (packText_any _ l X _ HB.out (by omega) (by omega)).mono ?_
  rw [if_pos (by omega)]
  rintro e w3 ⟨u3, rfl, ho3, hE3⟩
  have HA3 := Lib.hid (HA2.out.ext hE3)
  have HO3 := Lib.hid ho3
  obtain ⟨a', k', c', hh, hby⟩ := HA3.out.cell
  have cP2 := cell_of_heap hh 0
  have fP2 := frozen_of_heap hh 0
  simp only [List.getElem?_toArray, List.getElem?_cons_zero] at cP2
  obtain ⟨ua, un, uc, rfl⟩ := ho3.isSlice
  clear hh hby ho3 cP hcv
  go_wp2_with fail
  go_end0
  exact ⟨rfl, by rw [HX.out]; exact HA3.out.store HO3.out⟩
def opt7 (m : Msg.M) (f : Int) (x : List UInt8) : List UInt8 := cond (hasBit (mask m) f) x []
theorem opt7_le (m : Msg.M) (f : Int) (x : List UInt8) : (opt7 m f x).length ≤ x.length := by
 unfold opt7
 cases hasBit (mask m) f with
 | true => exact Nat.le_refl _
 | false => exact Nat.zero_le _
def tail7 (m : Msg.M) (b : List UInt8) : List UInt8 := (((((((b ++ opt7 m 1 (Msg.num m.shard)) ++ opt7 m 2 (Msg.num m.number)) ++ opt7 m 4 (Msg.textOf (Ent.enc m.ent))) ++ opt7 m 8 (Msg.num m.ballot)) ++ opt7 m 16 (Msg.num m.old)) ++ opt7 m 32 (Msg.boolOf m.is)) ++ opt7 m 64 (Msg.textOf (Rec.enc m.reco))) ++ opt7 m 128 (Msg.textOf (Term.enc m.conf))
theorem opt7_t {m : Msg.M} {f k : Int} {x : List UInt8} (h : mask m = k) (hb : hasBit k f = true) : opt7 m f x = x := by unfold opt7; rw [h, hb]; rfl
theorem opt7_f {m : Msg.M} {f k : Int} {x : List UInt8} (h : mask m = k) (hb : hasBit k f = false) : opt7 m f x = [] := by unfold opt7; rw [h, hb]; rfl
theorem mask_one {m : Msg.M} (h : m.kind = 1) : mask m = 67 := by simp [mask, maskOf, h]
theorem mask_two {m : Msg.M} (h : m.kind = 2) : mask m = 3 := by simp [mask, maskOf, h]
theorem mask_three {m : Msg.M} (h : m.kind = 3) : mask m = 4 := by simp [mask, maskOf, h]
theorem mask_four {m : Msg.M} (h : m.kind = 4 ∨ m.kind = 6) : mask m = 34 := by rcases h with h | h <;> simp [mask, maskOf, h]
theorem mask_five {m : Msg.M} (h : m.kind = 5) : mask m = 0 := by simp [mask, maskOf, h]
theorem mask_seven {m : Msg.M} (h : m.kind = 7) : mask m = 8 := by simp [mask, maskOf, h]
theorem mask_eight0 {m : Msg.M} (h : m.kind = 8) (o : m.old = 0) : mask m = 24 := by simp [mask, maskOf, h, o]
theorem mask_eight {m : Msg.M} (h : m.kind = 8) (o : ¬ m.old = 0) : mask m = 152 := by simp [mask, maskOf, h, o]
theorem mask_nine {m : Msg.M} (h : m.kind = 9) : mask m = 136 := by simp [mask, maskOf, h]
theorem mask_ten {m : Msg.M} (h : m.kind = 10) : mask m = 40 := by simp [mask, maskOf, h]
theorem tail7_eq {m : Msg.M} (h : Msg.right m = true) (b : List UInt8) : tail7 m b = b ++ Msg.parts m := by
 obtain ⟨hh, hi⟩ := Msg.right_is h
 unfold tail7 Msg.parts
 cases hi with
 | one k1 b o i r e c =>
  have hm := mask_one k1
  rw [opt7_t (f := 1) hm rfl, opt7_t (f := 2) hm rfl, opt7_f (f := 4) hm rfl, opt7_f (f := 8) hm rfl, opt7_f (f := 16) hm rfl, opt7_f (f := 32) hm rfl, opt7_t (f := 64) hm rfl, opt7_f (f := 128) hm rfl]
  rw [if_pos k1]
  simp only [List.append_nil, List.append_assoc]
 | two k1 b o i r e c =>
  have hm := mask_two k1
  rw [opt7_t (f := 1) hm rfl, opt7_t (f := 2) hm rfl, opt7_f (f := 4) hm rfl, opt7_f (f := 8) hm rfl, opt7_f (f := 16) hm rfl, opt7_f (f := 32) hm rfl, opt7_f (f := 64) hm rfl, opt7_f (f := 128) hm rfl]
  rw [if_neg (by omega), if_pos k1]
  simp only [List.append_nil, List.append_assoc]
 | three k1 b o i s n r e c =>
  have hm := mask_three k1
  rw [opt7_f (f := 1) hm rfl, opt7_f (f := 2) hm rfl, opt7_t (f := 4) hm rfl, opt7_f (f := 8) hm rfl, opt7_f (f := 16) hm rfl, opt7_f (f := 32) hm rfl, opt7_f (f := 64) hm rfl, opt7_f (f := 128) hm rfl]
  rw [if_neg (by omega), if_neg (by omega), if_pos k1]
  simp only [List.append_nil, List.append_assoc]
 | four k1 b o s r e c =>
  have hm := mask_four k1
  rw [opt7_f (f := 1) hm rfl, opt7_t (f := 2) hm rfl, opt7_f (f := 4) hm rfl, opt7_f (f := 8) hm rfl, opt7_f (f := 16) hm rfl, opt7_t (f := 32) hm rfl, opt7_f (f := 64) hm rfl, opt7_f (f := 128) hm rfl]
  rw [if_neg (by omega), if_neg (by omega), if_neg (by omega), if_pos k1]
  simp only [List.append_nil, List.append_assoc]
 | five k1 b o i s n r e c =>
  have hm := mask_five k1
  rw [opt7_f (f := 1) hm rfl, opt7_f (f := 2) hm rfl, opt7_f (f := 4) hm rfl, opt7_f (f := 8) hm rfl, opt7_f (f := 16) hm rfl, opt7_f (f := 32) hm rfl, opt7_f (f := 64) hm rfl, opt7_f (f := 128) hm rfl]
  rw [if_neg (by omega), if_neg (by omega), if_neg (by omega), if_neg (by omega), if_neg (by omega), if_neg (by omega), if_neg (by omega), if_neg (by omega)]
  simp only [List.append_nil, List.append_assoc]
 | seven k1 b o i s n r e c =>
  have hm := mask_seven k1
  rw [opt7_f (f := 1) hm rfl, opt7_f (f := 2) hm rfl, opt7_f (f := 4) hm rfl, opt7_t (f := 8) hm rfl, opt7_f (f := 16) hm rfl, opt7_f (f := 32) hm rfl, opt7_f (f := 64) hm rfl, opt7_f (f := 128) hm rfl]
  rw [if_neg (by omega), if_neg (by omega), if_neg (by omega), if_neg (by omega), if_pos k1]
  simp only [List.append_nil, List.append_assoc]
 | eight0 k1 b o i s n r e c =>
  have hm := mask_eight0 k1 o
  rw [opt7_f (f := 1) hm rfl, opt7_f (f := 2) hm rfl, opt7_f (f := 4) hm rfl, opt7_t (f := 8) hm rfl, opt7_t (f := 16) hm rfl, opt7_f (f := 32) hm rfl, opt7_f (f := 64) hm rfl, opt7_f (f := 128) hm rfl]
  rw [if_neg (by omega), if_neg (by omega), if_neg (by omega), if_neg (by omega), if_neg (by omega), if_pos k1, if_pos o]
  rw [o, show Msg.num 0 = [0] by simp [Msg.num, Pack.num_low]]
  simp only [List.append_nil, List.append_assoc]
 | eight k1 b o i s n r e c t =>
  have hm := mask_eight k1 (by omega)
  rw [opt7_f (f := 1) hm rfl, opt7_f (f := 2) hm rfl, opt7_f (f := 4) hm rfl, opt7_t (f := 8) hm rfl, opt7_t (f := 16) hm rfl, opt7_f (f := 32) hm rfl, opt7_f (f := 64) hm rfl, opt7_t (f := 128) hm rfl]
  rw [if_neg (by omega), if_neg (by omega), if_neg (by omega), if_neg (by omega), if_neg (by omega), if_pos k1, if_neg (by omega)]
  simp only [List.append_nil, List.append_assoc]
 | nine k1 b o i s n r e c t =>
  have hm := mask_nine k1
  rw [opt7_f (f := 1) hm rfl, opt7_f (f := 2) hm rfl, opt7_f (f := 4) hm rfl, opt7_t (f := 8) hm rfl, opt7_f (f := 16) hm rfl, opt7_f (f := 32) hm rfl, opt7_f (f := 64) hm rfl, opt7_t (f := 128) hm rfl]
  rw [if_neg (by omega), if_neg (by omega), if_neg (by omega), if_neg (by omega), if_neg (by omega), if_neg (by omega), if_pos k1]
  simp only [List.append_nil, List.append_assoc]
 | ten k1 b o s n r e c =>
  have hm := mask_ten k1
  rw [opt7_f (f := 1) hm rfl, opt7_f (f := 2) hm rfl, opt7_f (f := 4) hm rfl, opt7_t (f := 8) hm rfl, opt7_f (f := 16) hm rfl, opt7_t (f := 32) hm rfl, opt7_f (f := 64) hm rfl, opt7_f (f := 128) hm rfl]
  rw [if_neg (by omega), if_neg (by omega), if_neg (by omega), if_neg (by omega), if_neg (by omega), if_neg (by omega), if_neg (by omega), if_pos k1]
  simp only [List.append_nil, List.append_assoc]
theorem right_of_bits {m : Msg.M} (h : Msg.right m = true) : (hasBit (mask m) 4 = true → Ent.right m.ent = true) ∧ (hasBit (mask m) 64 = true → Rec.right m.reco = true) ∧ (hasBit (mask m) 128 = true → Term.right m.conf = true) := by
 obtain ⟨hh, hi⟩ := Msg.right_is h
 cases hi with
 | one k1 b o i r e c =>
  rw [mask_one k1]
  exact ⟨fun h => absurd h (by decide), fun _ => r, fun h => absurd h (by decide)⟩
 | two k1 b o i r e c =>
  rw [mask_two k1]
  exact ⟨fun h => absurd h (by decide), fun h => absurd h (by decide), fun h => absurd h (by decide)⟩
 | three k1 b o i s n r e c =>
  rw [mask_three k1]
  exact ⟨fun _ => e, fun h => absurd h (by decide), fun h => absurd h (by decide)⟩
 | four k1 b o s r e c =>
  rw [mask_four k1]
  exact ⟨fun h => absurd h (by decide), fun h => absurd h (by decide), fun h => absurd h (by decide)⟩
 | five k1 b o i s n r e c =>
  rw [mask_five k1]
  exact ⟨fun h => absurd h (by decide), fun h => absurd h (by decide), fun h => absurd h (by decide)⟩
 | seven k1 b o i s n r e c =>
  rw [mask_seven k1]
  exact ⟨fun h => absurd h (by decide), fun h => absurd h (by decide), fun h => absurd h (by decide)⟩
 | eight0 k1 b o i s n r e c =>
  rw [mask_eight0 k1 o]
  exact ⟨fun h => absurd h (by decide), fun h => absurd h (by decide), fun h => absurd h (by decide)⟩
 | eight k1 b o i s n r e c t =>
  rw [mask_eight k1 (by omega)]
  exact ⟨fun h => absurd h (by decide), fun h => absurd h (by decide), fun _ => c⟩
 | nine k1 b o i s n r e c t =>
  rw [mask_nine k1]
  exact ⟨fun h => absurd h (by decide), fun h => absurd h (by decide), fun _ => c⟩
 | ten k1 b o s n r e c =>
  rw [mask_ten k1]
  exact ⟨fun h => absurd h (by decide), fun h => absurd h (by decide), fun h => absurd h (by decide)⟩
theorem ranges7 {m : Msg.M} (h : Msg.right m = true) : (0 ≤ m.shard ∧ m.shard ≤ 1099511627776) ∧ (0 ≤ m.number ∧ m.number ≤ 1099511627776) ∧ (0 ≤ m.ballot ∧ m.ballot ≤ 1099511627776) ∧ (0 ≤ m.old ∧ m.old ≤ 1099511627776) := by
 obtain ⟨hh, hi⟩ := Msg.right_is h
 obtain ⟨x1, x2, x3, x4, x5⟩ := Msg.head_ok hh
 cases hi <;> omega
end Go.Proofs.YtldfpklgbedgjaaGreat
