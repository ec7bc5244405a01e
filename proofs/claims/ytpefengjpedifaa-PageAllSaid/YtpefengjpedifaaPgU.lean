/-
  Layer 8, the statements' helpers: alive.
-/
import Derived.Test.YtpefengjpedifaaPgH
import Derived.Lib.SlBytesConst
namespace Go.Proofs.Ytpefengjpedifaa
set_option linter.unusedSimpArgs false
set_option linter.unusedVariables false
set_option maxRecDepth 100000
open Go.RowKit

theorem Appended.below {w w' : World} {B base p : Nat} {va vp va' vp' : Value} {S : Page.St} {b : List UInt8} (h : Appended w base p va vp S b w' va' vp') (hs : IsSto w base p va vp S) (hB : B ≤ base) (hp : B ≤ p) (hw : B ≤ w.heap.size) : Below B w w' :=
  ⟨h.os, h.tape, h.output, h.size, fun k hk => h.block k (by omega) (by omega) (rowLow hs.all (by omega)) (rowLow hs.places (by omega))⟩
/-- A string is one of bytes. -/
theorem Bytes.slOne {w : World} (x : UInt8) (n : Int) (hn : n = (x.toNat : Int)) : Bytes (w.alloc (.cells #[.int .u8 n] 5 (1, 2))) (.slice (some ⟨w.heap.size, 0, none⟩) 1 1) [x] := by
  subst hn
  exact Sl.made w (u8s [x]) 5 1 rfl (by simp [maxLen])
namespace Page
theorem frame_one (x : UInt8) : (frame [x]).length = 6 := by rw [frame_length, List.length_singleton, Pack.num_low (by omega)]; rfl
theorem fromBytes_nil : fromBytes [] = ⟨[], 0, false⟩ := by unfold fromBytes; rw [List.take_nil, scan_none first_nil]; rfl
theorem one_append (x : UInt8) : (⟨[], 0, false⟩ : St).append [x] = ⟨[[x]], 0, false⟩ ∧ (⟨[], 0, false⟩ : St).appendErr [x] = 0 ∧ (⟨[], 0, false⟩ : St).appendAt [x] = 0 := by
  have hr : room ⟨[], 0, false⟩ [x] = true := by unfold room; rw [frame_one]; rfl
  unfold St.append St.appendErr St.appendAt
  rw [hr]
  exact ⟨rfl, rfl, rfl⟩
theorem two_append (x y : UInt8) : (⟨[[x]], 0, false⟩ : St).append [y] = ⟨[[x], [y]], 0, false⟩ ∧ (⟨[[x]], 0, false⟩ : St).appendErr [y] = 0 ∧ (⟨[[x]], 0, false⟩ : St).appendAt [y] = 6 := by
  have hb : (bytes [[x]]).length = 6 := by rw [bytes_cons, bytes_nil, List.append_nil, frame_one]
  have hr : room ⟨[[x]], 0, false⟩ [y] = true := by unfold room; rw [frame_one]; simp only; rw [hb]; rfl
  unfold St.append St.appendErr St.appendAt
  rw [hr]
  exact ⟨rfl, rfl, by simp only [Bool.false_eq_true, if_false, if_true]; exact hb⟩
theorem two_crash (x y : UInt8) : (⟨[[x], [y]], 0, false⟩ : St).crash 7 = ⟨[[x]], 1, false⟩ := by
  have hb : (bytes [[x], [y]]).length = 12 := by rw [bytes_cons, bytes_cons, bytes_nil, List.append_nil, List.length_append, frame_one, frame_one]
  have hst : (⟨[[x], [y]], 0, false⟩ : St).stay 7 = 7 := by
    unfold St.stay St.syn
    simp only [List.take_zero, bytes_nil, List.length_nil]
    rw [hb]
    rfl
  have hw : whole [[x], [y]] 7 = 1 := by
    unfold whole
    rw [frame_one, if_pos (by omega)]
    unfold whole
    rw [frame_one, if_neg (by omega)]
  unfold St.crash
  rw [hst]
  simp only
  rw [hw]
  rfl
theorem one_len (x : UInt8) : (bytes [[x]]).length = 6 ∧ (⟨[[x]], 1, false⟩ : St).syn = 6 := by
  have hb : (bytes [[x]]).length = 6 := by rw [bytes_cons, bytes_nil, List.append_nil, frame_one]
  exact ⟨hb, hb⟩
end Page

set_option maxHeartbeats 4000000 in
theorem alive8_any (w : World) : Calls Try.prog 10 #[] w fun e w' => e = .returned (.bool true) ∧ Ext w w' := by
  have kc := fun (w : World) (C : Array Value) (n c : Nat) => Lib.run_convert_bytes_const (P := Try.prog) w 22 5 C n c Try.underlying22 Try.underlying5
  go_enter Try.func10, Try.ntmps10
  go_wp2_with fail
  refine (new8_any (.slice none 0 0) [] w (bytes_none w)).mono ?_
  rintro e w1 ⟨va1, vp1, rfl, hs1, hE1⟩
  rw [Page.fromBytes_nil] at hs1
  go_wp2_with fail
  have hb2 := Bytes.slOne (w := w1) 97 97 rfl
  have hs1a := hs1.ext (Ext.alloc w1 (.cells #[.int .u8 97] 5 (1, 2)))
  have hsz1 := hE1.size
  refine (append8_any hs1a (by simp; omega) _ [97] hb2 (by simp)).mono ?_
  rintro e w2 ⟨rfl, va2, vp2, hA2⟩
  have hE2 : Ext w w2 := Below.trans (B := w.heap.size) (hE1.trans (Ext.alloc w1 _)) (hA2.below hs1a (Nat.le_refl _) (Nat.le_refl _) (by simp; omega))
  have hs2 := hA2.sto
  rw [(Page.one_append 97).1] at hs2
  rw [(Page.one_append 97).2.1, (Page.one_append 97).2.2]
  clear hA2 hs1 hs1a hb2
  go_wp2_with fail
  have hb3 := Bytes.slOne (w := w2) 98 98 rfl
  have hs2a := hs2.ext (Ext.alloc w2 (.cells #[.int .u8 98] 5 (1, 2)))
  have hsz2 := hE2.size
  refine (append8_any hs2a (by simp; omega) _ [98] hb3 (by simp)).mono ?_
  rintro e w3 ⟨rfl, va3, vp3, hA3⟩
  have hE3 : Ext w w3 := Below.trans (B := w.heap.size) (hE2.trans (Ext.alloc w2 _)) (hA3.below hs2a (Nat.le_refl _) (Nat.le_refl _) (by simp; omega))
  have hs3 := hA3.sto
  rw [(Page.two_append 97 98).1] at hs3
  rw [(Page.two_append 97 98).2.1, (Page.two_append 97 98).2.2]
  clear hA3 hs2 hs2a hb3
  go_wp2_with fail
  refine (crash8_any hs3 7 (by omega)).mono ?_
  rintro e w4 ⟨rfl, hB4, va4, vp4, hs4⟩
  have hE4 : Ext w w4 := newBut hE3 hB4
  have hs4' := hs4.lower hE3.size
  rw [Page.two_crash] at hs4'
  clear hs3 hs4 hB4
  go_wp2_with fail
  refine (frames8_any hs4').mono ?_
  rintro e w5 ⟨es, u, rfl, hx5, ho5, hg5, hE5⟩
  obtain ⟨ua, un, uc, rfl⟩ := ownSlice ho5
  have hl5 : es.length = 1 := by have := congrArg List.length hx5; simpa using this
  obtain ⟨e0, rfl⟩ : ∃ e0, es = [e0] := by
    match es, hl5 with
    | [e0], _ => exact ⟨e0, rfl⟩
  have hx0 : e0.x = [97] := by simpa using hx5
  obtain ⟨_, _, eu, _, _, _, hcell⟩ := Sl.ofOwn ho5
  obtain ⟨q, off, rfl, hc0⟩ := hcell 0 (by simp)
  injection eu with eu1 eu2 eu3
  subst eu1 eu2 eu3
  have hstr := run_str (P := Try.prog) 22 9 5 Try.underlying22 Try.underlying5 Try.underlying9 (hg5 e0 (by simp)).1
  rw [hx0] at hstr
  have hc0' : w5.cell? ⟨q, off, none⟩ = some (.slice e0.a e0.n e0.c) := hc0
  have hs5 := hs4'.ext hE5
  have hE05 : Ext w w5 := hE4.trans hE5
  have HS5 := Lib.hid hs5
  clear hs4' hcell hc0 ho5 hg5 hx5 hl5 hx0
  have HST := Lib.hid hstr
  clear hs5
  go_wp2_with fail
  refine (len8_any HS5.out).mono ?_
  rintro e w6 ⟨rfl, rfl⟩
  rw [(Page.one_len 97).1]
  go_wp2_with fail
  refine (synced8_any HS5.out).mono ?_
  rintro e w6 ⟨rfl, rfl⟩
  rw [(Page.one_len 97).2]
  go_wp2_with fail
  go_ret
  exact ⟨rfl, hE05⟩
end Go.Proofs.Ytpefengjpedifaa
