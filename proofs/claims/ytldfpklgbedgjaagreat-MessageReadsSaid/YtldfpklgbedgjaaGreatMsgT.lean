/-
 Merged: Layer 7, the document: its helpers that read a number, and a text.
-/
import Derived.Test.YtldfpklgbedgjaaGreatMsgS
namespace Go.Proofs.YtldfpklgbedgjaaGreat
set_option linter.unusedSimpArgs false
set_option linter.unusedVariables false
set_option maxRecDepth 100000
open Go.RowKit
set_option maxHeartbeats 8000000 in
theorem number7_any (l : List UInt8) (s : Pack.St) (m : Msg.M) (rt et sv dv : Value) (w : World) (hs : Sim l s) (hl : l.length ≤ 140737488355328) (h1 : IsSl rt) (h2 : IsSl et) (h3 : IsSl sv) (h4 : IsSl dv) :
 Calls Tryz.prog 50 #[.agg (stCells l s.err m rt et sv dv)] w fun x w' => ∃ l', x = .returned (.tuple #[.agg (stCells l' (s.num 1099511627776).1.err m rt et sv dv), .int .i64 ((s.num 1099511627776).2 : Nat)]) ∧ Sim l' (s.num 1099511627776).1 ∧ l'.length ≤ l.length ∧ Ext w w' := by
 have H1 := Lib.hid h1
 have H2 := Lib.hid h2
 have H3 := Lib.hid h3
 have H4 := Lib.hid h4
 have HS := Lib.hid hs
 clear h1 h2 h3 h4
 go_enter Tryz.func50, Tryz.ntmps50
 go_wp2_with (first
  | (refine boxS (by rfl) _ rfl rfl ?_; intro W0 q hat0 hE0 hq0)
  | (refine allocS (by rfl) rfl ?_; intro W1 q1 hat1 hE1 hq1)
  | (refine ldRd (l := l) (e := s.err) (by rfl) _ rfl rfl (StAt.rd (hat0.out.ext hE1.out)) ?_))
 refine (readNumRef_any l 1099511627776 s _ hs hl).mono ?_
 rintro e w2 ⟨l', rfl, hs', hl', hE2⟩
 have hat2 := Lib.hid ((hat0.out.ext hE1.out).ext hE2)
 have res2 := Lib.hid (hat1.out.ext hE2)
 have hlt := hat0.out.lt
 have hlt1 := hat1.out.lt
 have hw0 := hq0.out
 have hw1 := hq1.out
 have e2 := Lib.hid ((hE0.out.trans hE1.out).trans hE2)
 have hsz := hE2.size
 have HNE := Lib.hid (show q ≠ q1 ∧ q < w2.heap.size ∧ q1 < w2.heap.size ∧ w.heap.size ≤ q ∧ w.heap.size ≤ q1 by have := hE0.out.size; have := hE1.out.size; refine ⟨?_, ?_, ?_, ?_, ?_⟩ <;> omega)
 have HS' := Lib.hid hs'
 clear hw0 hw1 hlt hlt1 hsz hs' hq0 hq1 hE0 hE1 hat0 hat1 hE2
 go_wp2_with (first
  | (refine allocRd (by rfl) rfl ?_; intro W3 b3 hb3 hE3 hz3)
  | (refine putRd (l := l') (e := (s.num 1099511627776).1.err) (by rfl) _ _ rfl rfl rfl hb3.out ?_; intro W4 hb4 hB4)
  | (refine ldRd (l := l') (e := (s.num 1099511627776).1.err) (by rfl) _ rfl rfl ⟨cell_of_heap hb4.out 0, cell_of_heap hb4.out 1⟩ ?_)
  | (refine putSR (l2 := l') (e2 := (s.num 1099511627776).1.err) (by rfl) _ _ rfl rfl rfl (StAt.but (StAt.ext hat2.out hE3.out) hB4.out (by have := hz3.out; have := HNE.out; omega)) ?_; intro W5 hat5 hB5)
  | (refine ldS (by rfl) _ rfl rfl hat5.out ?_)
  | (refine putS (l2 := l') (e2 := (s.num 1099511627776).1.err) (by rfl) _ _ rfl rfl rfl (StAt.but (StAt.but (StAt.ext res2.out hE3.out) hB4.out (by have := hz3.out; have := HNE.out; omega)) hB5.out (by have := HNE.out; omega)) H1.out H2.out H3.out H4.out ?_; intro W6 hat6 hB6))
 have hld := run_loadVar_mid (P := Tryz.prog) W6 q1 0 90 _ _ hat6.out.range Tryz.underlying90 rfl (by kernel_rfl)
 have hN := HNE.out
 have hz := hz3.out
 have f3 := e2.out.trans hE3.out
 have f4 : Ext w W4 := Below.trans (B := w.heap.size) f3 (hB4.out.below (by have := e2.out.size; omega) f3.size)
 have f5 : Ext w W5 := Below.trans (B := w.heap.size) f4 (hB5.out.below (by omega) f4.size)
 have f6 : Ext w W6 := Below.trans (B := w.heap.size) f5 (hB6.out.below (by omega) f5.size)
 exact bodyPost_ret (v := .tuple #[.agg (stCells l' (s.num 1099511627776).1.err m rt et sv dv), .int .i64 ((s.num 1099511627776).2 : Nat)]) (by simp [results, Tryz.results50, hld, asAddr]) rfl ⟨_, rfl, HS'.out, hl', f6⟩
set_option maxHeartbeats 8000000 in
theorem text7_any (l : List UInt8) (s : Pack.St) (m : Msg.M) (rt et sv dv : Value) (w : World) (hs : Sim l s) (hl : l.length ≤ 140737488355328) (h1 : IsSl rt) (h2 : IsSl et) (h3 : IsSl sv) (h4 : IsSl dv) :
 Calls Tryz.prog 109 #[.agg (stCells l s.err m rt et sv dv)] w fun x w' => ∃ l' u, x = .returned (.tuple #[.agg (stCells l' (s.text 65536).1.err m rt et sv dv), u]) ∧ BO w' u (s.text 65536).2 ∧ Sim l' (s.text 65536).1 ∧ l'.length ≤ l.length ∧ Ext w w' := by
 have H1 := Lib.hid h1
 have H2 := Lib.hid h2
 have H3 := Lib.hid h3
 have H4 := Lib.hid h4
 have HS := Lib.hid hs
 clear h1 h2 h3 h4
 skip
 go_enter Tryz.func109, Tryz.ntmps109
 go_wp2_with (first
  | (refine boxS (by rfl) _ rfl rfl ?_; intro W0 q hat0 hE0 hq0)
  | (refine allocS (by rfl) rfl ?_; intro W1 q1 hat1 hE1 hq1)
  | (refine ldRd (l := l) (e := s.err) (by rfl) _ rfl rfl (StAt.rd (hat0.out.ext hE1.out)) ?_))
 refine (readTextRef_any l 65536 s _ hs hl).mono ?_
 rintro e w2 ⟨l', rfl, hs', hl', hE2⟩
 have hat2 := Lib.hid ((hat0.out.ext hE1.out).ext hE2)
 have res2 := Lib.hid (hat1.out.ext hE2)
 have hlt := hat0.out.lt
 have hlt1 := hat1.out.lt
 have hw0 := hq0.out
 have hw1 := hq1.out
 have e2 := Lib.hid ((hE0.out.trans hE1.out).trans hE2)
 have hsz := hE2.size
 have HNE := Lib.hid (show q ≠ q1 ∧ q < w2.heap.size ∧ q1 < w2.heap.size ∧ w.heap.size ≤ q ∧ w.heap.size ≤ q1 by have := hE0.out.size; have := hE1.out.size; refine ⟨?_, ?_, ?_, ?_, ?_⟩ <;> omega)
 have HS' := Lib.hid hs'
 clear hw0 hw1 hlt hlt1 hsz hs' hq0 hq1 hE0 hE1 hat0 hat1 hE2
 go_wp2_with (first
  | (refine allocRd (by rfl) rfl ?_; intro W3 b3 hb3 hE3 hz3)
  | (refine putRd (l := l') (e := (s.text 65536).1.err) (by rfl) _ _ rfl rfl rfl hb3.out ?_; intro W4 hb4 hB4)
  | (refine ldRd (l := l') (e := (s.text 65536).1.err) (by rfl) _ rfl rfl ⟨cell_of_heap hb4.out 0, cell_of_heap hb4.out 1⟩ ?_)
  | (refine putSR (l2 := l') (e2 := (s.text 65536).1.err) (by rfl) _ _ rfl rfl rfl (StAt.but (StAt.ext hat2.out hE3.out) hB4.out (by have := hz3.out; have := HNE.out; omega)) ?_; intro W5 hat5 hB5; have hcv := runConv W5 (s.text 65536).2)
  | (refine ldS (by rfl) _ rfl rfl hat5.out ?_)
  | (refine putS (l2 := l') (e2 := (s.text 65536).1.err) (by rfl) _ _ rfl rfl rfl (StAt.ext (StAt.but (StAt.but (StAt.ext res2.out hE3.out) hB4.out (by have := hz3.out; have := HNE.out; omega)) hB5.out (by have := HNE.out; omega)) (extConv _ _ _)) H1.out H2.out H3.out H4.out ?_; intro W6 hat6 hB6))
 have hz := hz3.out
 have hN := HNE.out
 have hatB : StAt (Lib.bytesWorld W5 5 ⟨(s.text 65536).2.toArray⟩) q1 [] 0 Msg.none0 (.slice none 0 0) (.slice none 0 0) (.slice none 0 0) (.slice none 0 0) := ((StAt.but (StAt.but (StAt.ext res2.out hE3.out) hB4.out (by omega)) hB5.out (by omega)).ext (extConv _ _ _))
 have HATB := Lib.hid hatB
 have hld := run_loadVar_mid (P := Tryz.prog) W6 q1 0 90 _ _ hat6.out.range Tryz.underlying90 rfl (by kernel_rfl)
 have f3 := e2.out.trans hE3.out
 have f4 : Ext w W4 := Below.trans (B := w.heap.size) f3 (hB4.out.below (by have := e2.out.size; omega) f3.size)
 have f5 : Ext w W5 := Below.trans (B := w.heap.size) f4 (hB5.out.below (by omega) f4.size)
 have f6 := f5.trans (extConv W5 5 ⟨(s.text 65536).2.toArray⟩)
 have f7 : Ext w W6 := Below.trans (B := w.heap.size) f6 (hB6.out.below (by omega) f6.size)
 have hbo := (Keeps.ofBut HATB.out (by decide) (by decide) (by decide) hB6.out).b _ _ (BO.conv W5 (s.text 65536).2 (by unfold maxLen; have := text_len s (by omega); omega))
 exact bodyPost_ret (v := .tuple #[.agg (stCells l' (s.text 65536).1.err m rt et sv dv), .slice (some ⟨W5.heap.size, 0, none⟩) (s.text 65536).2.length (grownCap W5 (s.text 65536).2.length 0 5)]) (by simp [results, Tryz.results109, hld, asAddr]) rfl ⟨_, _, rfl, hbo, HS'.out, hl', f7⟩
end Go.Proofs.YtldfpklgbedgjaaGreat
