/-
 Merged: Layer 7, the statements' own helpers: from one type to the other, whether so few, and the example.
-/
import Derived.Test.YtldfpklgbedgjaaGreatMsgArg
import Derived.Test.YtldfpklgbedgjaaGreatMsgE
import Derived.Test.YtldfpklgbedgjaaGreatMsgF
import Derived.Test.YtldfpklgbedgjaaGreatMsgJ
import Derived.Test.YtldfpklgbedgjaaGreatMsgM
import Derived.Test.YtldfpklgbedgjaaGreatMsgRM
namespace Go.Proofs.YtldfpklgbedgjaaGreat
set_option linter.unusedSimpArgs false
set_option linter.unusedVariables false
set_option maxRecDepth 100000
open Go.RowKit
theorem build_plain (w : World) (m : Msg.M) (rt et sv dv : Value) : (Instr.build 35 #[(0, .int .i64 m.kind), (1, .int .i64 m.src), (2, .int .i64 m.dst), (3, .int .i64 m.term), (4, .int .i64 m.shard), (5, .int .i64 m.number), (6, .bool m.is), (7, .agg #[.int .i64 m.reco.client, .int .i64 m.reco.number, rt, .string ⟨m.reco.data.toArray⟩]), (8, .agg #[.int .i64 m.ent.number, .int .i64 m.ent.kind, et, .int .i64 m.ent.tag, .int .i64 m.ent.term, .int .i64 m.ent.pos]), (9, .int .i64 m.ballot), (10, .int .i64 m.old), (11, .agg #[.int .i64 m.conf.term, sv, dv])]).run Tryz.prog w = .ok (.agg (msgCells m rt et sv dv)) w := by kernel_rfl
set_option maxHeartbeats 8000000 in
theorem plain7_any (v : Value) (m : Msg.M) (w : World) (hv : IsMsg w v m) : Calls Tryz.prog 19 #[v] w fun e w' => ∃ u, e = .returned u ∧ IsMsg w' u m ∧ Ext w w' := by
 have hbx := box_msg
 obtain ⟨a0, n0, k0, a1, n1, k1, a2, n2, k2, a3, n3, k3, rfl, h1, h2, h3, h4⟩ := hv.opened
 have hbd := build_plain
 have HM := Lib.hid (Msg7.new (m := m) 45 h1 h2 h3 h4)
 have hE0 := Ext.alloc w (.cells (msgCells m (.slice a0 n0 k0) (.slice a1 n1 k1) (.slice a2 n2 k2) (.slice a3 n3 k3)) 45)
 have H1 := Lib.hid h1
 have H2 := Lib.hid h2
 have H3 := Lib.hid h3
 have H4 := Lib.hid h4
 clear h1 h2 h3 h4 hv
 go_enter Tryz.func19, Tryz.ntmps19
 go_wp2_with (first
  | (refine allocMR (by rfl) rfl ?_; intro W1 q hat1 hE1 hq1; have M1 := Lib.hid (HM.out.ext hE1.out); obtain ⟨C0, C1, C2, C3, C4, C5, C6⟩ := M1.out.at_.head; obtain ⟨R0, R1, R2, R3⟩ := M1.out.at_.reco; obtain ⟨N0, N1, N2, N3, N4, N5⟩ := M1.out.at_.ent; obtain ⟨V0, V1⟩ := M1.out.at_.votes; obtain ⟨S0, S1, S2⟩ := M1.out.at_.conf)
  | (refine putMR (m2 := m) (r2 := .slice a0 n0 k0) (e2 := .slice a1 n1 k1) (s2 := .slice a2 n2 k2) (d2 := .slice a3 n3 k3) (by rfl) _ _ rfl rfl rfl hat1.out ⟨_, _, _, rfl⟩ ⟨_, _, _, rfl⟩ ⟨_, _, _, rfl⟩ ⟨_, _, _, rfl⟩ ?_; intro W2 hat2 hB2))
 have e1 : Ext w W1 := hE0.trans hE1.out
 have hq : w.heap.size ≤ q := by have := hq1.out; rw [World.size_alloc] at this; omega
 have e2 : Ext w W2 := Below.trans (B := w.heap.size) e1 (hB2.out.below hq e1.size)
 have hld := run_loadVar_mid (P := Tryz.prog) W2 q 0 35 _ _ (MsgAt.range hat2.out) Tryz.underlying35 rfl (by kernel_rfl)
 exact bodyPost_ret (v := .agg (msgCells m (.slice a0 n0 k0) (.slice a1 n1 k1) (.slice a2 n2 k2) (.slice a3 n3 k3))) (by simp [results, Tryz.results19, hld, asAddr, Act.put]) rfl ⟨_, rfl, ⟨_, _, _, _, rfl, H1.out.below e2, H2.out.below e2, H3.out.below e2, H4.out.below e2⟩, e2⟩
def exM : Msg.M := ⟨5, 0, 2, 1, 0, 0, false, Msg.rec0, Msg.ent0, 0, 0, Msg.conf0⟩
theorem exM_right : Msg.right exM = true := by decide
theorem exM_text : Msg.text exM = [5, 0, 2, 1] := by
 show Msg.num 5 ++ (Msg.num 0 ++ (Msg.num 2 ++ (Msg.num 1 ++ Msg.parts exM))) = _
 have hp : Msg.parts exM = [] := rfl
 rw [hp]
 simp [Msg.num, Pack.num_low]
theorem exM_len : (Msg.enc exM).length = 8 := by
 unfold Msg.enc
 rw [List.length_append, Crc.low_length, exM_text]
 rfl
theorem exM_take : (Msg.enc exM).take 4 = [5, 0, 2, 1] := by
 unfold Msg.enc
 rw [exM_text, List.take_left' (by rfl)]
theorem build_ex (w : World) : (Instr.build 45 #[(0, .int .i64 5), (2, .int .i64 2), (3, .int .i64 1)]).run Tryz.prog w = .ok (.agg (msgCells exM (.slice none 0 0) (.slice none 0 0) (.slice none 0 0) (.slice none 0 0))) w := by kernel_rfl
set_option maxHeartbeats 16000000 in
theorem alive7_any (w : World) : Calls Tryz.prog 10 #[] w fun e w' => e = .returned (.bool true) ∧ Ext w w' := by
 have hbe := build_ex
 go_enter Tryz.func10, Tryz.ntmps10
 go_wp2_with (first
  | (refine allocM (by rfl) rfl ?_; intro W1 q hat1 hE1 hq1)
  | (refine putM (m2 := exM) (r2 := .slice none 0 0) (e2 := .slice none 0 0) (s2 := .slice none 0 0) (d2 := .slice none 0 0) (by rfl) _ _ rfl rfl rfl hat1.out noSlice noSlice noSlice noSlice ?_; intro W2 hat2 hB2)
  | (refine ldA (by rfl) _ rfl rfl hat2.out ?_))
 have hq : w.heap.size ≤ q := Nat.le_of_eq hq1.out.symm
 have e2 := Lib.hid (show Ext w W2 from Below.trans (B := w.heap.size) hE1.out (hB2.out.below hq hE1.out.size))
 have HI := Lib.hid (show ∀ W, IsMsg W (.agg (msgCells exM (.slice none 0 0) (.slice none 0 0) (.slice none 0 0) (.slice none 0 0))) exM from fun W => ⟨_, _, _, _, rfl, ints0 _, ints0 _, ints0 _, irows0 _⟩)
 refine (encode7_own _ exM _ (HI.out _) exM_right).mono ?_
 rintro e w3 ⟨u3, rfl, ho3, hE3⟩
 have hbby := ho3.bytes
 have e3 := Lib.hid (e2.out.trans hE3)
 have A3 := Lib.hid (hat2.out.ext hE3)
 have HB3 := Lib.hid hbby
 obtain ⟨ua, uc, rfl, hcap3, hmax3, _⟩ := hbby.open
 rw [exM_len] at HB3 hcap3 ⊢
 unfold maxLen at hmax3
 clear hbby ho3 hE3 hq hE1 hq1 hat1 hB2
 go_wp2_with fail
 refine (decode7_enc _ exM _ exM_right HB3.out).mono ?_
 rintro e w4 ⟨u4, rfl, hm4, hE4⟩
 have e4 := Lib.hid (e3.out.trans hE4)
 have A4 := Lib.hid (A3.out.ext hE4)
 have HB4 := Lib.hid (HB3.out.below hE4)
 obtain ⟨c0, d0, f0, c1, d1, f1, c2, d2, f2, c3, d3, f3, rfl, g1, g2, g3, g4⟩ := hm4.opened
 have G := Lib.hid (And.intro g1 (And.intro g2 (And.intro g3 g4)))
 clear hm4 g1 g2 g3 g4 hE4
 go_wp2_with (first
  | (refine allocM (by rfl) rfl ?_; intro W5 q5 hat5 hE5 hq5)
  | (refine putM (m2 := exM) (by rfl) _ _ rfl rfl rfl hat5.out ⟨_, _, _, rfl⟩ ⟨_, _, _, rfl⟩ ⟨_, _, _, rfl⟩ ⟨_, _, _, rfl⟩ ?_; intro W6 hat6 hB6))
 have hn5 := hq5.out
 have A6 := Lib.hid ((A4.out.ext hE5.out).but hB6.out (by have := A4.out.lt; omega))
 have E46 : Ext w4 W6 := Below.trans (B := w4.heap.size) hE5.out (hB6.out.below (by omega) hE5.out.size)
 have e6 := Lib.hid (e4.out.trans E46)
 have HB6 := Lib.hid (HB4.out.below E46)
 have G6 := Lib.hid (And.intro (G.out.1.below E46) (And.intro (G.out.2.1.below E46) (And.intro (G.out.2.2.1.below E46) (G.out.2.2.2.below E46))))
 clear hn5 E46 hat5 hE5 hB6
 have hdn := decode7_any _ [] W6 (bytes_none _) (by simp)
 rw [show Msg.dec Ent.vd [] = none from Msg.By.dec_cut (by rfl)] at hdn
 refine hdn.mono ?_
 clear hdn
 rintro e w7 ⟨u7, rfl, hm7, hE7⟩
 have A7 := Lib.hid (A6.out.ext hE7)
 have e7 := Lib.hid (e6.out.trans hE7)
 have HB7 := Lib.hid (HB6.out.below hE7)
 have N7 := Lib.hid (hat6.out.ext hE7)
 have G7 := Lib.hid (And.intro (G6.out.1.below hE7) (And.intro (G6.out.2.1.below hE7) (And.intro (G6.out.2.2.1.below hE7) (G6.out.2.2.2.below hE7))))
 have hm7' : IsMsg w7 u7 Msg.none0 := hm7
 obtain ⟨x0, x1, x2, x3, x4, x5, x6, x7, x8, x9, y0, y1, rfl, _⟩ := hm7'.opened
 have h70 : errOf7 none = 70 := rfl
 have hbx : (Msg.enc exM).length = 8 := exM_len
 clear hm7 hE7 hm7'
 go_wp2_with (first
  | (refine allocM (by rfl) rfl ?_; intro W7 q7 hat7 hE7 hq7)
  | (refine putM (m2 := Msg.none0) (by rfl) _ _ rfl rfl rfl hat7.out ⟨_, _, _, rfl⟩ ⟨_, _, _, rfl⟩ ⟨_, _, _, rfl⟩ ⟨_, _, _, rfl⟩ ?_; intro W8 hat8 hB8; have hn7 := hq7.out; have E78 := Lib.hid (show Ext w7 W8 from Below.trans (B := w7.heap.size) hE7.out (hB8.out.below (by omega) hE7.out.size)); have A8 := Lib.hid (A7.out.ext E78.out); have N8 := Lib.hid (N7.out.ext E78.out); have hsl := run_sl_to (P := Tryz.prog) (w := W8) Tryz.underlying38 (by kernel_rfl) (a := ua) (n := 8) (cap := uc) 4 (by omega) .i64; have HT4 := Lib.hid (show Bytes W8 (.slice ua 4 uc) [5, 0, 2, 1] from exM_take ▸ (by have h := Sl.take (HB7.out.below E78.out) 4 (by omega); unfold u8s at h; rw [← List.map_take] at h; exact h)); have hst := run_str (P := Tryz.prog) 38 9 5 Tryz.underlying38 Tryz.underlying5 Tryz.underlying9 HT4.out; clear hn7)
  | (refine ldA (by rfl) _ rfl rfl A8.out ?_)
  | (refine ldA (by rfl) _ rfl rfl N8.out ?_))
 refine (same7_any _ _ exM exM _ (HI.out _) ⟨_, _, _, _, rfl, G7.out.1.below E78.out, G7.out.2.1.below E78.out, G7.out.2.2.1.below E78.out, G7.out.2.2.2.below E78.out⟩).mono ?_
 rw [Msg.alike_self]
 rintro e w9 ⟨rfl, hE9⟩
 go_wp2_with fail
 go_ret
 exact ⟨rfl, (e7.out.trans E78.out).trans hE9⟩
end Go.Proofs.YtldfpklgbedgjaaGreat
