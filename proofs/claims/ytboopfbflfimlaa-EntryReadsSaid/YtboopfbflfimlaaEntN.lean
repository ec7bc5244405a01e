/-
  Layer 5: what Decode leaves of what was encoded; a cut that is read as it was, and a chain.
-/
import Derived.Test.YtboopfbflfimlaaEntM
namespace Go.Proofs.Ytboopfbflfimlaa
set_option linter.unusedSimpArgs false
set_option linter.unusedVariables false
set_option maxRecDepth 100000
open Go.RowKit

theorem decode5_enc (v : Value) (e : Ent.E) (w : World) (hr : Ent.right e = true) (hv : Bytes w v (Ent.enc e)) :
    Calls Try.prog 16 #[v] w fun x w' => ∃ u, x = .returned (.tuple #[u, .int .i64 0]) ∧ IsEnt w' u e ∧ Ext w w' := by
  have h := decode5_any v (Ent.enc e) w hv (by have := Ent.enc_le hr; omega)
  unfold GivesDec5 at h
  rw [show Crc.cutOf (Ent.enc e) = some (Ent.text e) from Crc.cut_put _, Ent.dec_vd_enc hr] at h
  exact h
theorem decode5_none (v : Value) (l : List UInt8) (w : World) (hc : Crc.cutOf l = none) (hl : l.length ≤ 200000) (hv : Bytes w v l) :
    Calls Try.prog 16 #[v] w fun x w' => ∃ u, x = .returned (.tuple #[u, .int .i64 51]) ∧ IsEnt w' u Ent.noE ∧ Ext w w' := by
  have h := decode5_any v l w hv hl
  unfold GivesDec5 at h
  rw [hc, Ent.dec_cut hc] at h
  exact h
def aliveEnt : Ent.E := ⟨1, 1, [2, 3], 0, 0, 0⟩
theorem alive_right5 : Ent.right aliveEnt = true := by decide
theorem alive_enc5 : (Ent.enc aliveEnt).length = 10 := by
  unfold Ent.enc
  rw [List.length_append, Crc.low_length, Ent.text_one (e := aliveEnt) rfl]
  unfold Ent.vecBytes Rec.numsOf nums aliveEnt
  simp only [List.map_cons, List.map_nil, List.flatten_cons, List.flatten_nil, List.length_append, List.length_cons, List.length_nil, List.append_nil]
  simp [Pack.num_low]
theorem alive_chain5 : Ent.chain [aliveEnt, aliveEnt] = 1 := by decide
theorem alive_last5 : (Ent.lastOf [] (zeros 2)).length = 2 := by decide
theorem intsLit23 (w : World) (x y : Int) : Ints (w.alloc (.cells #[.int .i64 x, .int .i64 y] 3)) (.slice (some ⟨w.heap.size, 0, none⟩) 2 2) [x, y] := intsLit2 w x y
theorem build_ent3 (w : World) (n k : Int) (a : Option Addr) (m c : Nat) : (Instr.build 31 #[(0, .int .i64 n), (1, .int .i64 k), (2, .slice a m c)]).run Try.prog w = .ok (.agg #[.int .i64 n, .int .i64 k, .slice a m c, .int .i64 0, .int .i64 0, .int .i64 0]) w := by kernel_rfl
theorem ents_two (w : World) (u : Value) (e : Ent.E) (h : Ints w u e.cut) : Ents (w.alloc (.cells #[.int .i64 e.number, .int .i64 e.kind, u, .int .i64 e.tag, .int .i64 e.term, .int .i64 e.pos, .int .i64 e.number, .int .i64 e.kind, u, .int .i64 e.tag, .int .i64 e.term, .int .i64 e.pos] 31)) (.slice (some ⟨w.heap.size, 0, none⟩) 2 2) [e, e] := by
  refine ents_of_flat (ps := [(u, e), (u, e)]) (fun p hp => ?_) ⟨_, _, rfl, Nat.le_refl _, by simp [maxLen], fun e => by simp at e, rfl, fun j hj => ⟨_, _, rfl, ?_⟩⟩
  · have : p = (u, e) := by simpa using hp
    subst this
    exact h.below (Ext.alloc _ _)
  · rw [Nat.zero_add, World.cell?_alloc_mark]
    have hj : j < 12 := by simpa [entFlat] using hj
    simp [entFlat]

set_option maxHeartbeats 8000000 in
theorem entAlive_any (w : World) : Calls Try.prog 13 #[] w fun x w' => x = .returned (.bool true) ∧ Ext w w' := by
  have hb1 := build_ent3
  have hi := Lib.hid (intsLit23 w 2 3)
  have hE0 : Ext w ((w.alloc (.cells #[.int .i64 2, .int .i64 3] 3)).alloc (.cells #[.int .i64 1, .int .i64 1, .slice (some ⟨w.heap.size, 0, none⟩) 2 2, .int .i64 0, .int .i64 0, .int .i64 0] 31)) := ext_two _ _ _
  have hh := Lib.hid (heap_two w (.cells #[.int .i64 2, .int .i64 3] 3) (.cells #[.int .i64 1, .int .i64 1, .slice (some ⟨w.heap.size, 0, none⟩) 2 2, .int .i64 0, .int .i64 0, .int .i64 0] 31))
  have HREC := Lib.hid (show ∀ w' : World, Ext ((w.alloc (.cells #[.int .i64 2, .int .i64 3] 3)).alloc (.cells #[.int .i64 1, .int .i64 1, .slice (some ⟨w.heap.size, 0, none⟩) 2 2, .int .i64 0, .int .i64 0, .int .i64 0] 31)) w' → Ints w' (.slice (some ⟨w.heap.size, 0, none⟩) 2 2) [2, 3] from fun w' h => (hi.out.below (Ext.alloc _ _)).below h)
  have HX0 := Lib.hid (show EntAt 31 ((w.alloc (.cells #[.int .i64 2, .int .i64 3] 3)).alloc (.cells #[.int .i64 1, .int .i64 1, .slice (some ⟨w.heap.size, 0, none⟩) 2 2, .int .i64 0, .int .i64 0, .int .i64 0] 31)) (w.heap.size + 1) (.slice (some ⟨w.heap.size, 0, none⟩) 2 2) aliveEnt from hh.out.2)
  clear hi hh
  go_enter Try.func13, Try.ntmps13
  go_wp2_with fail
  generalize hw0 : ((w.alloc (.cells #[.int .i64 2, .int .i64 3] 3)).alloc (.cells #[.int .i64 1, .int .i64 1, .slice (some ⟨w.heap.size, 0, none⟩) 2 2, .int .i64 0, .int .i64 0, .int .i64 0] 31)) = w0 at *
  clear hw0
  generalize hp0 : w.heap.size = p0 at *
  have HP0 := Lib.hid hp0
  clear hp0
  refine (encode5_own _ aliveEnt _ ⟨_, rfl, HREC.out _ (Ext.refl _)⟩ alive_right5).mono ?_
  unfold OwnsEnc5
  rintro e w1 ⟨v1, rfl, hb, hE1⟩
  rw [alive_enc5] at hb
  obtain ⟨a1, c1, rfl⟩ : ∃ a c, v1 = .slice a 10 c := by
    rcases hb.2 with ⟨_, h0⟩ | ⟨g, c, cur, rfl, _⟩
    · cases h0
    · exact ⟨_, _, rfl⟩
  have HB := Lib.hid (show Bytes w1 (.slice a1 10 c1) (Ent.enc aliveEnt) from Sl.ofOwn hb)
  clear hb
  have X1 := Lib.hid (HX0.out.ext hE1)
  go_wp2_with fail
  refine (decode5_enc _ aliveEnt _ alive_right5 HB.out).mono ?_
  rintro e w2 ⟨u2, rfl, hi2, hE2⟩
  obtain ⟨a2, n2, c2, rfl⟩ := hi2.shape
  have HI2 := Lib.hid hi2
  clear hi2
  have X2 := Lib.hid (X1.out.ext hE2)
  unfold aliveEnt at HI2 X2 ⊢
  simp only at HI2 X2 ⊢
  have hE3 : Ext w2 (w2.alloc (.cells #[.int .i64 1, .int .i64 1, .slice a2 n2 c2, .int .i64 0, .int .i64 0, .int .i64 0] 31)) := Ext.alloc _ _
  have X3 := Lib.hid (X2.out.ext hE3)
  have Y3 := Lib.hid (EntAt.new 31 w2 (.slice a2 n2 c2) ⟨1, 1, [2, 3], 0, 0, 0⟩)
  obtain ⟨x0, x1, x2, x3, x4, x5⟩ := X3.out.cells
  obtain ⟨y0, y1, y2, y3, y4, y5⟩ := Y3.out.cells
  have HI3 := Lib.hid (HI2.out.below hE3)
  have HR3 := Lib.hid (HREC.out _ (hE1.trans (hE2.trans hE3)))
  have hE03 := hE1.trans (hE2.trans hE3)
  go_wp2_with fail
  refine (same5_any _ _ ⟨1, 1, [2, 3], 0, 0, 0⟩ ⟨1, 1, [2, 3], 0, 0, 0⟩ _ ⟨_, rfl, HR3.out⟩ HI3.out).mono ?_
  rw [Ent.alike_self]
  rintro e w4 ⟨rfl, hE4⟩
  clear x0 x1 x2 x3 x4 x5 y0 y1 y2 y3 y4 y5
  have X4 := Lib.hid (X3.out.ext hE4)
  obtain ⟨x0, x1, x2, x3, x4, x5⟩ := X4.out.cells
  have HT4 := Lib.hid (ents_two w4 (.slice (some ⟨p0, 0, none⟩) 2 2) ⟨1, 1, [2, 3], 0, 0, 0⟩ (HR3.out.below hE4))
  go_wp2_with fail
  refine (chain5_any _ _ _ HT4.out).mono ?_
  rw [show Ent.chain [⟨1, 1, [2, 3], 0, 0, 0⟩, ⟨1, 1, [2, 3], 0, 0, 0⟩] = 1 from alive_chain5]
  rintro e w5 ⟨rfl, hE5⟩
  clear x0 x1 x2 x3 x4 x5
  go_wp2_with fail
  refine (last5_any _ [] 2 _ (Ents.nil _)).mono ?_
  rintro e w6 ⟨u6, rfl, hi6, hE6⟩
  obtain ⟨a6, n6, c6, rfl⟩ := Ints.isSlice hi6
  have hn6 := (Ints.len hi6).1
  rw [alive_last5] at hn6
  subst hn6
  clear hi6
  go_wp2_with fail
  go_ret
  exact ⟨rfl, (hE0.trans hE03).trans (hE4.trans ((Ext.alloc _ _).trans (hE5.trans hE6)))⟩
end Go.Proofs.Ytboopfbflfimlaa
