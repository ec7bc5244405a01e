/-
  EntryBack: what was written is read as it was; turned in a byte it is refused: for every input the statement's function returns true, and leaves what came in as it was.
-/
import Derived.Test.YtboopfbflfimlaaEntZ
import Derived.Laws.OwnMore
import Derived.Laws.BitsAllLaws
/- Bytes with their sum behind, of which one is another one, are refused (CrcSet's text; merged here for the claim's count of files). -/
namespace Go.Proofs.Ytboopfbflfimlaa.Crc

theorem sum_set (t : List UInt8) (k : Nat) (x : UInt8) (hk : k < t.length) (hx : x ≠ t[k]) : sum (t.set k x) ≠ sum t := by
  intro h
  have h1 := sum_eq _ _ h
  obtain ⟨s, hs⟩ : ∃ s, s = 4294967295 := ⟨_, rfl⟩
  rw [← hs] at h1
  have hs' : s < 4294967296 := by omega
  clear hs h
  obtain ⟨P, y, D, rfl, rfl⟩ := part_at t k hk
  have hy : (P ++ y :: D)[P.length] = y := by simp
  rw [hy] at hx
  have e : x = y ^^^ (y ^^^ x) := by rw [← UInt8.xor_assoc, UInt8.xor_self, UInt8.zero_xor]
  have hset : (P ++ y :: D).set P.length x = P ++ (y ^^^ (y ^^^ x)) :: D := by
    rw [← e]
    simp [List.set_append_right]
  rw [hset] at h1
  refine turned_one s hs' P D y (y ^^^ x) (fun h0 => hx ?_) h1
  rw [e, h0, UInt8.xor_zero]
theorem cut_four (t s : List UInt8) (hs : s.length = 4) (h : s ≠ low (sum t)) : cutOf (t ++ s) = none := by
  have h1 : (t ++ s).length = t.length + 4 := by rw [List.length_append, hs]
  unfold cutOf
  rw [h1, if_neg (by omega)]
  have h2 : (t ++ s).take (t.length + 4 - 4) = t := by rw [Nat.add_sub_cancel]; exact List.take_left
  rw [h2, if_neg]
  intro e
  exact h (List.append_cancel_left e).symm
/-- One byte is another one. -/
theorem cut_set (t : List UInt8) (k : Nat) (x : UInt8) (hk : k < (t ++ low (sum t)).length) (hx : x ≠ (t ++ low (sum t))[k]) : cutOf ((t ++ low (sum t)).set k x) = none := by
  by_cases hlt : k < t.length
  · rw [List.set_append_left _ _ hlt]
    refine cut_other _ _ (sum_set t k x hlt ?_)
    rw [List.getElem_append_left hlt] at hx
    exact hx
  · rw [List.set_append_right _ _ (by omega)]
    refine cut_four _ _ (by rw [List.length_set, low_length]) (fun e => hx ?_)
    rw [List.getElem_append_right (by omega)]
    have hk4 : k - t.length < (low (sum t)).length := by rw [List.length_append] at hk; omega
    have h5 := congrArg (fun l => l[k - t.length]?) e
    simp only [List.getElem?_set, hk4, if_true, List.getElem?_eq_getElem hk4] at h5
    injection h5
end Go.Proofs.Ytboopfbflfimlaa.Crc

namespace Go.Proofs.Ytboopfbflfimlaa
set_option maxRecDepth 100000
set_option linter.unusedSimpArgs false
set_option linter.unusedVariables false
open Go.ChangeShapes Go.WideShapes Go.ChangeAt Go.RowKit

theorem u8sSet (l : List UInt8) (k : Nat) (x : UInt8) : u8s (l.set k x) = (u8s l).set k (.int .u8 (x.toNat : Int)) := by simp [u8s, List.map_set]
theorem xorOther (a t : UInt8) (h : t ≠ 0) : a ^^^ t ≠ a := by
  intro e
  apply h
  have : a ^^^ (a ^^^ t) = a ^^^ a := by rw [e]
  rwa [← UInt8.xor_assoc, UInt8.xor_self, UInt8.zero_xor] at this

set_option maxHeartbeats 8000000 in
theorem entryBack_walk (v : Value) (r : Ent.E) (at' turn : Int) (W : World) (hv : IsEnt W v r) :
    Calls Try.prog 5 #[v, .int .i64 at', .int .i64 turn] W fun e W' => e = .returned (.bool true) ∧ Below W.heap.size W W' := by
  have hbx := box_entR
  have HV := Lib.hid hv
  obtain ⟨a, m, c, rfl⟩ := hv.shape
  clear hv
  have hE0 : Ext W (W.alloc (.cells #[.int .i64 r.number, .int .i64 r.kind, .slice a m c, .int .i64 r.tag, .int .i64 r.term, .int .i64 r.pos] 26)) := Ext.alloc _ _
  have HA0 := Lib.hid (EntAt.new 26 W (.slice a m c) r)
  cases hr : Ent.right r with
  | false =>
    have HR := Lib.hid hr
    clear hr
    go_enter Try.func5, Try.ntmps5
    go_wp2_with fail
    refine (encode5_wrong _ r _ (HV.out.below hE0) HR.out).mono ?_
    rintro e w1 ⟨rfl, hE1⟩
    go_wp2_with fail
    refine (entAlive_any _).mono ?_
    rintro e w5 ⟨rfl, hE5⟩
    go_wp2_with fail
    go_ret
    exact ⟨rfl, (hE0.trans hE1).trans hE5⟩
  | true =>
    have hcut := fun k x hk hx => Crc.cut_set (Ent.text r) k x hk hx
    rw [show Ent.text r ++ Crc.low (Crc.sum (Ent.text r)) = Ent.enc r from rfl] at hcut
    have hle := Ent.enc_le hr
    have HR := Lib.hid hr
    clear hr
    obtain ⟨L, hLL⟩ : ∃ L, Ent.enc r = L := ⟨_, rfl⟩
    rw [hLL] at hcut hle
    have HLL := Lib.hid hLL
    clear hLL
    obtain ⟨N, hN⟩ : ∃ N, L.length = N := ⟨_, rfl⟩
    rw [hN] at hle
    have HL := Lib.hid (show (Ent.enc r).length = N by rw [HLL.out, hN])
    have HN := Lib.hid hN
    have HCUT := Lib.hid hcut
    have HSELF := Lib.hid (Ent.alike_self r)
    clear hcut hN
    by_cases h1 : at' < 0
    · skip
      go_enter Try.func5, Try.ntmps5
      go_wp2_with fail
      refine (encode5_own _ r _ (HV.out.below hE0) HR.out).mono ?_
      unfold OwnsEnc5
      rintro e w1 ⟨u1, rfl, ho1, hE1⟩
      obtain ⟨a1, n1, c1, rfl⟩ := ownSlice ho1
      have hb1 : Bytes w1 (.slice a1 n1 c1) (Ent.enc r) := Sl.ofOwn ho1
      have hn1 := hb1.len.1
      rw [HL.out] at hn1
      have hn1 := hn1.symm
      subst hn1
      have HB1 := Lib.hid hb1
      have HO := Lib.hid ho1
      have X1 := Lib.hid (HA0.out.ext hE1)
      clear ho1 hb1
      go_wp2_with fail
      refine (decode5_enc _ r _ HR.out HB1.out).mono ?_
      rintro e w2 ⟨u2, rfl, hi2, hE2⟩
      obtain ⟨a2, n2, c2, rfl⟩ := hi2.shape
      have HI2 := Lib.hid hi2
      clear hi2
      have hE2' : Ext w2 (w2.alloc (.cells #[.int .i64 r.number, .int .i64 r.kind, .slice a2 n2 c2, .int .i64 r.tag, .int .i64 r.term, .int .i64 r.pos] 31)) := Ext.alloc _ _
      obtain ⟨y0, y1, y2, y3, y4, y5⟩ := ((X1.out.ext hE2).ext hE2').cells
      obtain ⟨z0, z1, z2, z3, z4, z5⟩ := (EntAt.new 31 w2 (.slice a2 n2 c2) r).cells
      have e2 := ((hE0.trans hE1).trans hE2).trans hE2'
      go_wp2_with fail
      refine (refSame5_any _ _ r r _ (HI2.out.below hE2') (HV.out.below e2)).mono ?_
      rw [HSELF.out]
      rintro e w3 ⟨rfl, hE3⟩
      have e3 := e2.trans hE3
      clear y0 y1 y2 y3 y4 y5 z0 z1 z2 z3 z4 z5
      go_wp2_with fail
      refine (entAlive_any _).mono ?_
      rintro e w5 ⟨rfl, hE5⟩
      go_wp2_with fail
      go_ret
      exact ⟨rfl, e3.trans hE5⟩
    by_cases h2 : (N : Int) ≤ at'
    · skip
      go_enter Try.func5, Try.ntmps5
      go_wp2_with fail
      refine (encode5_own _ r _ (HV.out.below hE0) HR.out).mono ?_
      unfold OwnsEnc5
      rintro e w1 ⟨u1, rfl, ho1, hE1⟩
      obtain ⟨a1, n1, c1, rfl⟩ := ownSlice ho1
      have hb1 : Bytes w1 (.slice a1 n1 c1) (Ent.enc r) := Sl.ofOwn ho1
      have hn1 := hb1.len.1
      rw [HL.out] at hn1
      have hn1 := hn1.symm
      subst hn1
      have HB1 := Lib.hid hb1
      have HO := Lib.hid ho1
      have X1 := Lib.hid (HA0.out.ext hE1)
      clear ho1 hb1
      go_wp2_with fail
      refine (decode5_enc _ r _ HR.out HB1.out).mono ?_
      rintro e w2 ⟨u2, rfl, hi2, hE2⟩
      obtain ⟨a2, n2, c2, rfl⟩ := hi2.shape
      have HI2 := Lib.hid hi2
      clear hi2
      have hE2' : Ext w2 (w2.alloc (.cells #[.int .i64 r.number, .int .i64 r.kind, .slice a2 n2 c2, .int .i64 r.tag, .int .i64 r.term, .int .i64 r.pos] 31)) := Ext.alloc _ _
      obtain ⟨y0, y1, y2, y3, y4, y5⟩ := ((X1.out.ext hE2).ext hE2').cells
      obtain ⟨z0, z1, z2, z3, z4, z5⟩ := (EntAt.new 31 w2 (.slice a2 n2 c2) r).cells
      have e2 := ((hE0.trans hE1).trans hE2).trans hE2'
      go_wp2_with fail
      refine (refSame5_any _ _ r r _ (HI2.out.below hE2') (HV.out.below e2)).mono ?_
      rw [HSELF.out]
      rintro e w3 ⟨rfl, hE3⟩
      have e3 := e2.trans hE3
      clear y0 y1 y2 y3 y4 y5 z0 z1 z2 z3 z4 z5
      go_wp2_with fail
      refine (entAlive_any _).mono ?_
      rintro e w5 ⟨rfl, hE5⟩
      go_wp2_with fail
      go_ret
      exact ⟨rfl, e3.trans hE5⟩
    by_cases h3 : turn < 1
    · skip
      go_enter Try.func5, Try.ntmps5
      go_wp2_with fail
      refine (encode5_own _ r _ (HV.out.below hE0) HR.out).mono ?_
      unfold OwnsEnc5
      rintro e w1 ⟨u1, rfl, ho1, hE1⟩
      obtain ⟨a1, n1, c1, rfl⟩ := ownSlice ho1
      have hb1 : Bytes w1 (.slice a1 n1 c1) (Ent.enc r) := Sl.ofOwn ho1
      have hn1 := hb1.len.1
      rw [HL.out] at hn1
      have hn1 := hn1.symm
      subst hn1
      have HB1 := Lib.hid hb1
      have HO := Lib.hid ho1
      have X1 := Lib.hid (HA0.out.ext hE1)
      clear ho1 hb1
      go_wp2_with fail
      refine (decode5_enc _ r _ HR.out HB1.out).mono ?_
      rintro e w2 ⟨u2, rfl, hi2, hE2⟩
      obtain ⟨a2, n2, c2, rfl⟩ := hi2.shape
      have HI2 := Lib.hid hi2
      clear hi2
      have hE2' : Ext w2 (w2.alloc (.cells #[.int .i64 r.number, .int .i64 r.kind, .slice a2 n2 c2, .int .i64 r.tag, .int .i64 r.term, .int .i64 r.pos] 31)) := Ext.alloc _ _
      obtain ⟨y0, y1, y2, y3, y4, y5⟩ := ((X1.out.ext hE2).ext hE2').cells
      obtain ⟨z0, z1, z2, z3, z4, z5⟩ := (EntAt.new 31 w2 (.slice a2 n2 c2) r).cells
      have e2 := ((hE0.trans hE1).trans hE2).trans hE2'
      go_wp2_with fail
      refine (refSame5_any _ _ r r _ (HI2.out.below hE2') (HV.out.below e2)).mono ?_
      rw [HSELF.out]
      rintro e w3 ⟨rfl, hE3⟩
      have e3 := e2.trans hE3
      clear y0 y1 y2 y3 y4 y5 z0 z1 z2 z3 z4 z5
      go_wp2_with fail
      refine (entAlive_any _).mono ?_
      rintro e w5 ⟨rfl, hE5⟩
      go_wp2_with fail
      go_ret
      exact ⟨rfl, e3.trans hE5⟩
    by_cases h4 : (255 : Int) < turn
    · skip
      go_enter Try.func5, Try.ntmps5
      go_wp2_with fail
      refine (encode5_own _ r _ (HV.out.below hE0) HR.out).mono ?_
      unfold OwnsEnc5
      rintro e w1 ⟨u1, rfl, ho1, hE1⟩
      obtain ⟨a1, n1, c1, rfl⟩ := ownSlice ho1
      have hb1 : Bytes w1 (.slice a1 n1 c1) (Ent.enc r) := Sl.ofOwn ho1
      have hn1 := hb1.len.1
      rw [HL.out] at hn1
      have hn1 := hn1.symm
      subst hn1
      have HB1 := Lib.hid hb1
      have HO := Lib.hid ho1
      have X1 := Lib.hid (HA0.out.ext hE1)
      clear ho1 hb1
      go_wp2_with fail
      refine (decode5_enc _ r _ HR.out HB1.out).mono ?_
      rintro e w2 ⟨u2, rfl, hi2, hE2⟩
      obtain ⟨a2, n2, c2, rfl⟩ := hi2.shape
      have HI2 := Lib.hid hi2
      clear hi2
      have hE2' : Ext w2 (w2.alloc (.cells #[.int .i64 r.number, .int .i64 r.kind, .slice a2 n2 c2, .int .i64 r.tag, .int .i64 r.term, .int .i64 r.pos] 31)) := Ext.alloc _ _
      obtain ⟨y0, y1, y2, y3, y4, y5⟩ := ((X1.out.ext hE2).ext hE2').cells
      obtain ⟨z0, z1, z2, z3, z4, z5⟩ := (EntAt.new 31 w2 (.slice a2 n2 c2) r).cells
      have e2 := ((hE0.trans hE1).trans hE2).trans hE2'
      go_wp2_with fail
      refine (refSame5_any _ _ r r _ (HI2.out.below hE2') (HV.out.below e2)).mono ?_
      rw [HSELF.out]
      rintro e w3 ⟨rfl, hE3⟩
      have e3 := e2.trans hE3
      clear y0 y1 y2 y3 y4 y5 z0 z1 z2 z3 z4 z5
      go_wp2_with fail
      refine (entAlive_any _).mono ?_
      rintro e w5 ⟨rfl, hE5⟩
      go_wp2_with fail
      go_ret
      exact ⟨rfl, e3.trans hE5⟩
    obtain ⟨k, rfl⟩ : ∃ k : Nat, at' = (k : Int) := ⟨at'.toNat, by omega⟩
    obtain ⟨t, ht, htn⟩ : ∃ t : UInt8, turn = (t.toNat : Int) ∧ t ≠ 0 := by
      refine ⟨UInt8.ofNat turn.toNat, ?_, ?_⟩
      · rw [u8_ofNat]; omega
      · intro e
        have := congrArg UInt8.toNat e
        simp at this
        omega
    subst ht
    have hk : k < N := by omega
    have hkL : k < L.length := by rw [HN.out]; exact hk
    go_enter Try.func5, Try.ntmps5
    go_wp2_with fail
    refine (encode5_own _ r _ (HV.out.below hE0) HR.out).mono ?_
    unfold OwnsEnc5
    rintro e w1 ⟨u1, rfl, ho1, hE1⟩
    obtain ⟨a1, n1, c1, rfl⟩ := ownSlice ho1
    have hb1 : Bytes w1 (.slice a1 n1 c1) (Ent.enc r) := Sl.ofOwn ho1
    have hn1 := hb1.len.1
    rw [HL.out] at hn1
    have hn1 := hn1.symm
    subst hn1
    have HB1 := Lib.hid hb1
    have HO := Lib.hid ho1
    have X1 := Lib.hid (HA0.out.ext hE1)
    clear ho1 hb1
    go_wp2_with fail
    refine (decode5_enc _ r _ HR.out HB1.out).mono ?_
    rintro e w2 ⟨u2, rfl, hi2, hE2⟩
    obtain ⟨a2, n2, c2, rfl⟩ := hi2.shape
    have HI2 := Lib.hid hi2
    clear hi2
    have hE2' : Ext w2 (w2.alloc (.cells #[.int .i64 r.number, .int .i64 r.kind, .slice a2 n2 c2, .int .i64 r.tag, .int .i64 r.term, .int .i64 r.pos] 31)) := Ext.alloc _ _
    obtain ⟨y0, y1, y2, y3, y4, y5⟩ := ((X1.out.ext hE2).ext hE2').cells
    obtain ⟨z0, z1, z2, z3, z4, z5⟩ := (EntAt.new 31 w2 (.slice a2 n2 c2) r).cells
    have e2 := ((hE0.trans hE1).trans hE2).trans hE2'
    go_wp2_with fail
    refine (refSame5_any _ _ r r _ (HI2.out.below hE2') (HV.out.below e2)).mono ?_
    rw [HSELF.out]
    rintro e w3 ⟨rfl, hE3⟩
    have e3 := e2.trans hE3
    clear y0 y1 y2 y3 y4 y5 z0 z1 z2 z3 z4 z5
    obtain ⟨g, cap, e1⟩ : ∃ g cap, Value.slice a1 N c1 = .slice (some ⟨g, 0, none⟩) N cap := by
      rcases HO.out.2 with ⟨_, h0⟩ | ⟨g, cap, _, h, _⟩
      · rw [HL.out] at h0; omega
      · rw [HL.out] at h; exact ⟨g, cap, h⟩
    injection e1 with e1 _ e2x
    subst e1 e2x
    have hown : w3.ownsRow (W.heap.size + 1) 5 1 (.slice (some ⟨g, 0, none⟩) N c1) N (u8s L) := by
      have := rowExt (rowExt (rowExt HO.out hE2) hE2') hE3
      rw [HL.out, HLL.out, World.size_alloc] at this
      exact this
    have hgg := hown.lt g rfl
    have hcell : w3.cell? ⟨g, k, none⟩ = some (.int .u8 (L[k].toNat : Int)) := by
      rw [hown.cellAt k (by omega)]
      simp [u8s, hkL]
    have hfz := hown.frozenAt k
    obtain ⟨x, hx⟩ : ∃ x, L[k] ^^^ t = x := ⟨_, rfl⟩
    have hbit : bits .xor .u8 (L[k].toNat : Int) (t.toNat : Int) = (x.toNat : Int) := by
      rw [u8_xor_nat _ _ (UInt8.toNat_lt _) (UInt8.toNat_lt _), ← hx, UInt8.toNat_xor]
    have hnat : ((L[k].toNat ^^^ t.toNat : Nat) : Int) = (x.toNat : Int) := by rw [← hx, UInt8.toNat_xor]
    have hwr : IntKind.u8.wrap (t.toNat : Int) = (t.toNat : Int) := by
      rw [IntKind.wrap_u8']
      have := t.toNat_lt
      omega
    have hxo : x ≠ L[k] := by rw [← hx]; exact xorOther _ _ htn
    have hcn := HCUT.out k x hkL hxo
    have HST := Lib.hid (hown.stored k (.int .u8 (x.toNat : Int))).1
    have HCN := Lib.hid hcn
    have hlen : (L.set k x).length ≤ 200000 := by rw [List.length_set, HN.out]; omega
    have E2 : Ext W (w3.setCell ⟨g, k, none⟩ (.int .u8 (x.toNat : Int))) := Below.setCell e3 (p := ⟨g, k, none⟩) (by show W.heap.size ≤ g; omega) _
    clear hown hx hcn hxo
    have hby : Bytes (w3.setCell ⟨g, k, none⟩ (.int .u8 (x.toNat : Int))) (.slice (some ⟨g, 0, none⟩) N c1) (L.set k x) := by
      unfold Bytes
      rw [u8sSet]
      exact Sl.ofOwn HST.out
    have HBY := Lib.hid hby
    clear hby
    go_wp2_with fail
    generalize hw4 : w3.setCell ⟨g, k, none⟩ (.int .u8 (x.toNat : Int)) = w4 at *
    clear hw4 HST hcell hfz
    refine (decode5_none _ (L.set k x) _ HCN.out hlen HBY.out).mono ?_
    rintro e w5 ⟨u5, rfl, hi5, hE5⟩
    obtain ⟨a5, n5, c5, rfl⟩ := hi5.shape
    clear hi5
    have hE6 : Ext w5 (w5.alloc (.cells #[.int .i64 Ent.noE.number, .int .i64 Ent.noE.kind, .slice a5 n5 c5, .int .i64 Ent.noE.tag, .int .i64 Ent.noE.term, .int .i64 Ent.noE.pos] 31)) := Ext.alloc _ _
    have hEE := (Ext.trans E2 hE5).trans hE6
    go_wp2_with fail
    refine (entAlive_any _).mono ?_
    rintro e w7 ⟨rfl, hE7⟩
    go_wp2_with fail
    go_ret
    exact ⟨rfl, hEE.trans hE7⟩

namespace entryBack
theorem own : ownKnob Try.prog.godebug = none := by kernel_rfl
theorem laidOut : laidOutB Try.prog = true := by kernel_rfl
set_option linter.unusedVariables false in
set_option maxRecDepth 100000 in
theorem lifted (os : Os) (started : os.Started) (H : Type) (enc : TypeId × Value → H) :
    ReturnsInHanded {} Try.checked os 5 .any (Rows.entryBackSpec.pre6 enc Try.prog Try.f5 Rows.entryBackRow.domain false) (Rows.entryBackSpec.post enc Try.prog Try.f5 false true false false) := by
  refine returnsInHanded_of_change_sized (C := Try.checked) own started (by kernel_rfl) Try.func5
    (ChangeSpec.witness6 (enc := enc) (C := Try.checked) false ⟨#[], #[.agg #[.int .i64 0, .int .i64 0, .slice none 0 0, .int .i64 0, .int .i64 0, .int .i64 0], .int .i64 0, .int .i64 0], []⟩ 8 (by kernel_rfl) (by kernel_rfl) (by kernel_rfl) (by kernel_rfl)) ?_
  intro W base args ds gs before hval0 hW hcnd hsz _
  have hval : ∀ (j : Nat) t v, Try.f5.params[j]? = some t → args[j]? = some v → Value.okWide Try.prog W .any base t v := hval0
  have hW' := hW
  obtain ⟨p, q, hA0, hV, rfl, hfz, hnd⟩ := hW'
  have hA : DataW.TrodAll enc Try.prog W 0 (fun _ => true) true Try.f5.params.toList args.toList ds p := hA0
  rw [Try.params5] at hA hval
  obtain ⟨v0, vs0, d0, ds0, p0, q0, hargs, rfl, rfl, h0, r0⟩ := trodAll_cons hA
  obtain ⟨v1, vs1, d1, ds1, p1, q1, rfl, rfl, rfl, h1, r1⟩ := trodAll_cons r0
  obtain ⟨v2, vs2, d2, ds2, p2, q2, rfl, rfl, rfl, h2, r2⟩ := trodAll_cons r1
  obtain ⟨rfl, rfl, rfl⟩ := trodAll_nil r2
  obtain rfl : args = #[v0, v1, v2] := by cases args; simp_all
  obtain ⟨rfl, rfl⟩ := trodVars_none hV
  have k0 := h0
  have lt0 : ∀ x ∈ p0, x.block < W.heap.size := by obtain ⟨m, hm⟩ := k0; exact DataW.trod_lt m _ _ _ hm
  obtain ⟨l0, w0⟩ := ent_arg (hval 0 26 v0 rfl rfl) h0
  have k1 := h1
  have lt1 : ∀ x ∈ p1, x.block < W.heap.size := by obtain ⟨m, hm⟩ := k1; exact DataW.trod_lt m _ _ _ hm
  obtain ⟨a1, rfl, _, _, w1⟩ := open_int Try.underlying3 (hval 1 3 v1 rfl rfl) h1
  have k2 := h2
  have lt2 : ∀ x ∈ p2, x.block < W.heap.size := by obtain ⟨m, hm⟩ := k2; exact DataW.trod_lt m _ _ _ hm
  obtain ⟨a2, rfl, _, _, w2⟩ := open_int Try.underlying3 (hval 2 3 v2 rfl rfl) h2
  clear hA0 hval0
  refine (entryBack_walk v0 l0 a1 a2 W w0).mono fun e W' ⟨he, bel⟩ => ?_
  subst he
  exact ⟨_, rfl, _, _, _, [], _, [], hW, trodAll_mk1 (shut_bool Try.underlying4 _), (trodAll_cons_mk (Below.trod laidOut (by kernel_rfl) (of_decide_eq_true (by kernel_rfl)) k0 bel lt0) (trodAll_cons_mk (Below.trod laidOut (by kernel_rfl) (of_decide_eq_true (by kernel_rfl)) k1 bel lt1) (trodAll_cons_mk (Below.trod laidOut (by kernel_rfl) (of_decide_eq_true (by kernel_rfl)) k2 bel lt2) trodAll_mk0))), rfl, bel.frame _, fun h => by cases h⟩
theorem over : Rows.entryBackRow.holds Try.pinned (OpenSpec.ofChange Rows.entryBackSpec) :=
  OpenClaim.holds_of_wide 5 Try.f5 rfl rfl rfl rfl rfl rfl rfl ⟨rfl, rfl, rfl, rfl, rfl⟩ rfl rfl rfl rfl rfl (by kernel_rfl) Try.func5 (by kernel_rfl)
    (of_decide_eq_true (by kernel_rfl)) (by unfold Func.isWrapper; first | (rw [if_pos (by decide +kernel)]; kernel_rfl) | (rw [if_neg (by decide +kernel)]; exact ⟨rfl, rfl⟩))
    (fun os started H enc _ => lifted os started H enc)
theorem proved : Rows.EntryBackSaid := over
end entryBack
end Go.Proofs.Ytboopfbflfimlaa
