/-
  Layer 4: the statements' own small call.
-/
import Derived.Test.YtjflbjlpibekhaaRecG
namespace Go.Proofs.Ytjflbjlpibekhaa
set_option maxRecDepth 100000
open Go.RowKit

/-- What is written is read. -/
theorem dec_of_enc {r : Rec.R} (h : Rec.right r = true) : decErr4 (Crc.cutOf (Rec.enc r)) = 0 ∧ decRec4 (Crc.cutOf (Rec.enc r)) = r := by
  have hc : Crc.cutOf (Rec.enc r) = some (Rec.text r) := by unfold Rec.enc; exact Crc.cut_put _
  rw [hc, decErr4_some, decRec4_some, Rec.readOk_text h, (Rec.read_text h).2]
  exact ⟨rfl, rfl⟩
theorem decode4_enc (v : Value) (r : Rec.R) (w : World) (hr : Rec.right r = true) (hv : Bytes w v (Rec.enc r)) :
    Calls Try.prog 16 #[v] w fun e w' => ∃ u, e = .returned (.tuple #[u, .int .i64 0]) ∧ IsRec w' u r ∧ Ext w w' := by
  have h := decode4_any v (Rec.enc r) w hv (by have := Rec.enc_le hr; omega)
  unfold GivesDec4 at h
  rw [(dec_of_enc hr).1, (dec_of_enc hr).2] at h
  exact h
theorem decode4_none (v : Value) (l : List UInt8) (w : World) (hc : Crc.cutOf l = none) (hl : l.length ≤ 200000) (hv : Bytes w v l) :
    Calls Try.prog 16 #[v] w fun e w' => ∃ u, e = .returned (.tuple #[u, .int .i64 41]) ∧ IsRec w' u noRec ∧ Ext w w' := by
  have h := decode4_any v l w hv hl
  rw [hc] at h
  exact h
/-- A record's value, opened. -/
theorem IsRec.shape {w : World} {v : Value} {r : Rec.R} (h : IsRec w v r) : ∃ a n c, v = .agg #[.int .i64 r.client, .int .i64 r.number, .slice a n c, .string ⟨r.data.toArray⟩] := by
  obtain ⟨t, rfl, ht⟩ := h
  obtain ⟨a, c, rfl, _⟩ := ht.open
  exact ⟨_, _, _, rfl⟩
theorem cells4 {w : World} {p : Nat} {x0 x1 x2 x3 : Value} {T : TypeId} {fr : Nat × Nat} (h : w.heap[p]? = some (.cells #[x0, x1, x2, x3] T fr)) : w.cell? ⟨p, 0, none⟩ = some x0 ∧ w.cell? ⟨p, 1, none⟩ = some x1 ∧ w.cell? ⟨p, 2, none⟩ = some x2 ∧ w.cell? ⟨p, 3, none⟩ = some x3 :=
  ⟨cell_of_heap h 0, cell_of_heap h 1, cell_of_heap h 2, cell_of_heap h 3⟩
def aliveRec : Rec.R := ⟨1, 2, [3, 7], [120]⟩
theorem alive_right4 : Rec.right aliveRec = true := by decide
theorem alive_enc4 : (Rec.enc aliveRec).length = 11 := by
  unfold Rec.enc Rec.text Rec.numsOf aliveRec
  rw [List.length_append, Crc.low_length]
  simp only [List.map_cons, List.map_nil, List.flatten_cons, List.flatten_nil, List.length_append, List.length_cons, List.length_nil, List.append_nil]
  rw [Pack.num_low (by decide), Pack.num_low (by decide), Pack.num_low (by decide), Pack.num_low (by decide), Pack.num_low (by decide), Pack.num_low (by decide)]
  rfl
theorem alive_same4 : Rec.same aliveRec aliveRec = true := Rec.same_self _
theorem alive_has4 : Rec.has aliveRec 7 = true := by decide
theorem alive_less4 : Rec.less 1 9 2 0 = true := by decide
theorem cut_nil : Crc.cutOf [] = none := by unfold Crc.cutOf; rw [if_pos (by simp)]
theorem ints_lit24 (w : World) (x y : Int) : Ints (w.alloc (.cells #[.int .i64 x, .int .i64 y] 3)) (.slice (some ⟨w.heap.size, 0, none⟩) 2 2) [x, y] :=
  Sl.made w (i64s [x, y]) 3 2 (by simp) (by simp [maxLen]) (fr := (0, 0))
theorem build_alive (w : World) (c n : Int) (a : Option Addr) (m k : Nat) (s : ByteArray) : (Instr.build 26 #[(0, .agg #[.int .i64 c, .int .i64 n]), (1, .slice a m k), (2, .string s)]).run Try.prog w = .ok (.agg #[.int .i64 c, .int .i64 n, .slice a m k, .string s]) w := by kernel_rfl
theorem build_seq (w : World) (c n : Int) : (Instr.build 45 #[(0, .int .i64 c), (1, .int .i64 n)]).run Try.prog w = .ok (.agg #[.int .i64 c, .int .i64 n]) w := by kernel_rfl
theorem build_seq1 (w : World) (c : Int) : (Instr.build 45 #[(0, .int .i64 c)]).run Try.prog w = .ok (.agg #[.int .i64 c, .int .i64 0]) w := by kernel_rfl

set_option maxHeartbeats 4000000 in
theorem recAlive_any (w : World) : Calls Try.prog 13 #[] w fun e w' => e = .returned (.bool true) ∧ Ext w w' := by
  have hb1 := build_id
  have hb2 := build_alive
  have hb3 := build_seq
  have hb4 := build_seq1
  have hi := Lib.hid (ints_lit24 w 3 7)
  have hE0 : Ext w ((w.alloc (.cells #[.int .i64 3, .int .i64 7] 3)).alloc (.cells #[.int .i64 1, .int .i64 2, .slice (some ⟨w.heap.size, 0, none⟩) 2 2, .string ⟨#[120]⟩] 26)) := ext_two _ _ _
  have hh := Lib.hid (heap_two w (.cells #[.int .i64 3, .int .i64 7] 3) (.cells #[.int .i64 1, .int .i64 2, .slice (some ⟨w.heap.size, 0, none⟩) 2 2, .string ⟨#[120]⟩] 26))
  have hrec : ∀ w' : World, Ext ((w.alloc (.cells #[.int .i64 3, .int .i64 7] 3)).alloc (.cells #[.int .i64 1, .int .i64 2, .slice (some ⟨w.heap.size, 0, none⟩) 2 2, .string ⟨#[120]⟩] 26)) w' → IsRec w' (.agg #[.int .i64 1, .int .i64 2, .slice (some ⟨w.heap.size, 0, none⟩) 2 2, .string ⟨#[120]⟩]) aliveRec := fun w' h => ⟨_, rfl, (hi.out.below (Ext.alloc _ _)).below h⟩
  have HREC := Lib.hid hrec
  clear hrec
  go_enter Try.func13, Try.ntmps13
  go_wp2_with fail
  refine (encode4_any _ aliveRec _ (HREC.out _ (Ext.refl _))).mono ?_
  unfold GivesEnc4
  rw [alive_right4]
  rintro e w1 ⟨v1, rfl, hb, hE1⟩
  rw [bytesOr_true] at hb
  obtain ⟨a1, n1, c1, rfl⟩ := hb.isSlice
  have hn1 := hb.len.1
  rw [alive_enc4] at hn1
  subst hn1
  have HB := Lib.hid hb
  clear hb
  have hx1 := Lib.hid (heap_ext hh.out.2 hE1)
  go_wp2_with fail
  refine (decode4_enc _ aliveRec _ alive_right4 HB.out).mono ?_
  rintro e w2 ⟨u2, rfl, hi2, hE2⟩
  obtain ⟨a2, n2, c2, rfl⟩ := hi2.shape
  have HI2 := Lib.hid hi2
  clear hi2
  unfold aliveRec at HI2 ⊢
  simp only at HI2 ⊢
  have hx2 := Lib.hid (heap_ext hx1.out hE2)
  go_wp2_with fail
  refine (decode4_none _ [] _ cut_nil (by simp) (bytes_none _)).mono ?_
  rintro e w3 ⟨u3, rfl, hi3, hE3⟩
  obtain ⟨a3, n3, c3, rfl⟩ := hi3.shape
  unfold noRec
  simp only
  have hE3' : Ext w2 w3 := (Ext.alloc _ _).trans hE3
  have hx3 := Lib.hid (heap_ext hx2.out hE3')
  have hy3 := Lib.hid (heap_ext (heap_alloc_new w2 _) hE3)
  have hE34 : Ext w3 (w3.alloc (.cells #[.int .i64 0, .int .i64 0, .slice a3 n3 c3, .string ⟨#[]⟩] 26)) := Ext.alloc _ _
  obtain ⟨y0, y1, y2, y3⟩ := cells4 (heap_ext hx3.out hE34)
  obtain ⟨z0, z1, z2, z3⟩ := cells4 (heap_ext hy3.out hE34)
  have hE03 : Ext w2 (w3.alloc (.cells #[.int .i64 0, .int .i64 0, .slice a3 n3 c3, .string ⟨#[]⟩] 26)) := hE3'.trans hE34
  have HR2 := Lib.hid (show IsRec _ _ ⟨1, 2, [3, 7], [120]⟩ from HI2.out.below hE03)
  have HR1 := Lib.hid (show IsRec _ _ ⟨1, 2, [3, 7], [120]⟩ from HREC.out _ (hE1.trans (hE2.trans hE03)))
  clear hi3
  go_wp2_with fail
  refine (refSame4_any _ _ _ _ _ HR1.out HR2.out).mono ?_
  rw [show Rec.same ⟨1, 2, [3, 7], [120]⟩ ⟨1, 2, [3, 7], [120]⟩ = true from Rec.same_self _]
  rintro e w5 ⟨rfl, hE5⟩
  clear y0 y1 y2 y3
  obtain ⟨y0, y1, y2, y3⟩ := cells4 (heap_ext (heap_ext hx3.out hE34) hE5)
  go_wp2_with fail
  refine (has4_any _ ⟨1, 2, [3, 7], [120]⟩ 7 _ (HR1.out.below hE5)).mono ?_
  rw [show Rec.has ⟨1, 2, [3, 7], [120]⟩ 7 = true from by decide]
  rintro e w6 ⟨rfl, hE6⟩
  go_wp2_with fail
  refine (less4_any 1 9 2 0 _).mono ?_
  rw [alive_less4]
  rintro e w7 ⟨rfl, hE7⟩
  go_wp2_with fail
  go_ret
  exact ⟨rfl, (hE0.trans hE1).trans ((hE2.trans hE03).trans (hE5.trans (hE6.trans hE7)))⟩
end Go.Proofs.Ytjflbjlpibekhaa
