/-
  CrcTurned: a byte turned is told by the sum: for every input the statement's function returns true, and leaves what came in as it was.
-/
import Derived.Test.YtkgpcgcglbaehaaCrcT
namespace Go.Proofs.Ytkgpcgcglbaehaa
open Go.ChangeShapes Go.WideShapes Go.ChangeAt Go.RowKit

theorem u8s_set (l : List UInt8) (k : Nat) (x : UInt8) : u8s (l.set k x) = (u8s l).set k (.int .u8 (x.toNat : Int)) := by simp [u8s, List.map_set]

set_option maxRecDepth 100000 in
set_option maxHeartbeats 4000000 in
theorem crcTurned_bad (a : Option Addr) (n c : Nat) (l : List UInt8) (z : Int) (t u : UInt8) (W : World) (h0 : Bytes W (.slice a n c) l) (hz : (Lit.int .i64 z).wf = true)
    (hbad : z < 0 ∨ (n : Int) ≤ z ∨ 20000 < n ∨ (t.toNat : Int) = 0) :
    Calls Try.prog 6 #[.slice a n c, .int .i64 z, .agg #[.int .u8 (t.toNat : Int), .int .u8 (u.toNat : Int)]] W fun e W' => e = .returned (.bool true) ∧ Below W.heap.size W W' := by
  obtain ⟨hz0, hz1⟩ := bounds_i64 hz
  obtain ⟨hn, hnc, hc⟩ := h0.len
  have parts : z < 0 ∨ (¬ z < 0 ∧ (n : Int) ≤ z) ∨ (¬ z < 0 ∧ ¬ (n : Int) ≤ z ∧ (20000 : Int) < (n : Int)) ∨ (¬ z < 0 ∧ ¬ (n : Int) ≤ z ∧ ¬ (20000 : Int) < (n : Int) ∧ (t.toNat : Int) = 0) := by omega
  clear hbad hn hz
  rcases parts with p1 | ⟨p1, p2⟩ | ⟨p1, p2, p3⟩ | ⟨p1, p2, p3, p4⟩
  all_goals
    go_enter Try.func6, Try.ntmps6
    go_wp2_with fail
    refine (newT _).mono ?_
    rintro e w1 ⟨rfl, hb1, ht1⟩
    have hbox : w1.cell? ⟨W.heap.size, 0, none⟩ = some (.int .u8 (t.toNat : Int)) := by
      rw [hb1.cell (p := ⟨W.heap.size, 0, none⟩) (by simp)]
      simp [World.cell?_alloc_mark] <;> omega
    have hb0 : Ext W w1 := (Ext.alloc _ _).trans hb1
    go_wp2_with fail
    refine (alive_any _).mono ?_
    rintro e w3 ⟨rfl, hb3⟩
    go_wp2_with fail
    go_ret
    exact ⟨rfl, (hb0.trans hb3).below⟩

set_option maxRecDepth 100000 in
set_option maxHeartbeats 4000000 in
theorem crcTurned_good (a : Option Addr) (n c : Nat) (l : List UInt8) (k : Nat) (t u : UInt8) (W : World) (h0 : Bytes W (.slice a n c) l) (hk : k < n) (hn2 : n ≤ 20000) (ht0 : t ≠ 0) :
    Calls Try.prog 6 #[.slice a n c, .int .i64 (k : Int), .agg #[.int .u8 (t.toNat : Int), .int .u8 (u.toNat : Int)]] W fun e W' => e = .returned (.bool true) ∧ Below W.heap.size W W' := by
  obtain ⟨hn, hnc, hc⟩ := h0.len
  have hkl : k < l.length := by omega
  have p1 : ¬ (k : Int) < 0 := by omega
  have p2 : ¬ (n : Int) ≤ (k : Int) := by omega
  have p3 : ¬ (20000 : Int) < (n : Int) := by omega
  have ht : ¬ (t.toNat : Int) = 0 := by
    intro h
    exact ht0 (UInt8.toNat_inj.1 (by simpa using h))
  have p4 : ((t.toNat : Int) == 0) = false := by simpa using ht
  have hu := u8s_one l
  have hc1 : 0 + (u8s l).length ≤ maxLen := by simp [maxLen]; omega
  have hc2 : (0 + (u8s l).length) * 1 ≤ 140737488355328 := by simp; omega
  have hll : l.length ≤ 20000 := by omega
  have HN := Lib.hid hn
  clear hn
  go_enter Try.func6, Try.ntmps6
  go_wp2_with fail
  refine (newT _).mono ?_
  rintro e w1 ⟨rfl, hb1, ht1⟩
  have hboxh : w1.heap[W.heap.size]? = some (.cells #[.int .u8 (t.toNat : Int), .int .u8 (u.toNat : Int)] 36 (0, 0)) := by
    rw [hb1.block W.heap.size (by simp)]
    exact heap_alloc_new W _
  have hbox := (cell_of_heap hboxh 0)
  have hb0 : Ext W w1 := (Ext.alloc _ _).trans hb1
  have hown0 : (w1.alloc (.cells #[] 5)).ownsRow w1.heap.size 5 1 (.slice (some ⟨w1.heap.size, 0, none⟩) 0 0) 0 [] := World.ownsRow_made w1 #[] 0 (Nat.le_refl _) (by simp [maxLen]) (by simp)
  have hsl : Sl (w1.alloc (.cells #[] 5)) (.slice a n c) (u8s l) := h0.below (hb0.trans (Ext.alloc _ _))
  have hz0 : w1.heap.size ≤ (w1.alloc (.cells #[] 5)).heap.size := by simp
  simp only [List.getElem?_toArray, List.getElem?_cons_zero] at hbox
  go_wp2_with (at_builtin; refine wpList_app rfl (.tmp 39) (.tmp 40) tU8c rfl rfl rfl hown0 hsl hu hc1 hc2 hz0 ?_; intro v2 w2 hown2 hg2; have hE2 : Ext w1 w2 := ((Below.refl _ w1).alloc (Nat.le_refl _) _).grown hg2 (by simp) (fun k hk => (hown0.lt k hk).1))
  obtain ⟨g, cap, rfl⟩ : ∃ g cap, v2 = .slice (some ⟨g, 0, none⟩) (0 + (u8s l).length) cap := by
    rcases hown2.2 with ⟨_, h0⟩ | ⟨g, cap, _, rfl, _⟩
    · rw [u8s_length] at h0; omega
    · exact ⟨g, cap, rfl⟩
  have hgg := hown2.lt g rfl
  rw [List.nil_append] at hown2
  rw [Nat.zero_add, u8s_length] at hown2 ⊢
  have hbox2 : w2.cell? ⟨W.heap.size, 0, none⟩ = some (.int .u8 (t.toNat : Int)) := by
    rw [hE2.cell (p := ⟨W.heap.size, 0, none⟩) (World.block_lt_of_cell? w1 _ hbox)]
    exact hbox
  have hcell2 : w2.drew.cell? ⟨g, k, none⟩ = some (.int .u8 (l[k].toNat : Int)) := by
    rw [World.cell?_drew, hown2.cellAt k (by omega)]
    simp [u8s, hkl]
  have hfz2 : w2.drew.frozen? ⟨g, k, none⟩ = false := by
    rw [World.frozen?_drew]; exact hown2.frozenAt k
  have hx2 : bits .xor .u8 (l[k].toNat : Int) (t.toNat : Int) = ((l[k] ^^^ t).toNat : Int) := by
    rw [u8_xor_nat _ _ (UInt8.toNat_lt _) (UInt8.toNat_lt _), UInt8.toNat_xor]
  go_region
  have hE3 : Ext w1 ((w2.setCell ⟨g, k, none⟩ (.int .u8 ((l[k].toNat ^^^ t.toNat : Nat) : Int))).drew) := (Below.setCell hE2 hgg.1 _).drew
  have hown3 : ((w2.setCell ⟨g, k, none⟩ (.int .u8 ((l[k].toNat ^^^ t.toNat : Nat) : Int))).drew).ownsRow w1.heap.size 5 1 (.slice (some ⟨g, 0, none⟩) l.length cap) l.length (u8s (l.set k (l[k] ^^^ t))) := by
    have := (hown2.stored k (.int .u8 ((l[k].toNat ^^^ t.toNat : Nat) : Int))).1.drew
    rw [u8s_set]
    rw [UInt8.toNat_xor]
    exact this
  obtain ⟨w3, hw3⟩ : ∃ w3, w3 = (w2.setCell ⟨g, k, none⟩ (.int .u8 ((l[k].toNat ^^^ t.toNat : Nat) : Int))).drew := ⟨_, rfl⟩
  rw [← hw3] at hE3 hown3 ⊢
  clear hw3 hcell2 hfz2 hown2 hbox2 hown0 hg2 hE2 hx2
  go_upto_if 54 with fail
  go_cut [] (fun wx => Ext w1 wx ∧ wx.ownsRow w1.heap.size 5 1 (.slice (some ⟨g, 0, none⟩) l.length cap) l.length (u8s (Crc.turned l k t u)))
  case first =>
    by_cases hk1 : k + 1 < l.length
    · have q1 : (k : Int) + 1 < (l.length : Int) := by omega
      have hcell3 : w3.drew.cell? ⟨g, k + 1, none⟩ = some (.int .u8 (l[k + 1].toNat : Int)) := by
        rw [World.cell?_drew, hown3.cellAt (k + 1) (by omega)]
        simp [u8s, hk1]
      have hfz3 : w3.drew.frozen? ⟨g, k + 1, none⟩ = false := by
        rw [World.frozen?_drew]; exact hown3.frozenAt (k + 1)
      have hbox3 : w3.drew.cell? ⟨W.heap.size, 1, none⟩ = some (.int .u8 (u.toNat : Int)) := by
        rw [World.cell?_drew, hE3.cell (p := ⟨W.heap.size, 1, none⟩) (World.block_lt_of_cell? w1 ⟨W.heap.size, 0, none⟩ hbox), cell_of_heap hboxh 1]
        rfl
      have hx3 : bits .xor .u8 (l[k + 1].toNat : Int) (u.toNat : Int) = ((l[k + 1] ^^^ u).toNat : Int) := by
        rw [u8_xor_nat _ _ (UInt8.toNat_lt _) (UInt8.toNat_lt _), UInt8.toNat_xor]
      go_wp2_with fail
      go_region
      go_wp2
      go_meet
      refine ⟨(Below.setCell hE3 hgg.1 _).drew, ?_⟩
      have ht : Crc.turned l k t u = (l.set k (l[k] ^^^ t)).set (k + 1) (l[k + 1] ^^^ u) := by
        unfold Crc.turned
        rw [if_pos hk1]
        simp [List.getD, hk1, hkl]
      rw [ht, u8s_set]
      simp only [UInt8.toNat_xor]
      exact (hown3.stored (k + 1) _).1.drew
    · have q1 : ¬ (k : Int) + 1 < (l.length : Int) := by omega
      go_wp2_with fail
      go_meet
      refine ⟨hE3, ?_⟩
      have ht : Crc.turned l k t u = l.set k (l[k] ^^^ t) := by
        unfold Crc.turned
        rw [if_neg hk1]
        simp [List.getD, hkl]
      rw [ht]
      exact hown3
  case rest =>
    obtain ⟨hE, hown⟩ := hcut
    clear hown3 hE3 hboxh hbox hsl hz0 hc1 hc2 hu p4 ht
    have ht1' : TB w1 (W.heap.size + 1) := by simpa using ht1
    have hlt1 := ht1'.lt
    have hps := TBs.one ht1'
    obtain ⟨p, hp⟩ : ∃ p, p = W.heap.size + 1 := ⟨_, rfl⟩
    rw [← hp] at hps hlt1 ⊢
    have hT : (Crc.turned l k t u).length = l.length := Crc.turned_length l k t u
    have hne : Crc.sum (Crc.turned l k t u) ≠ Crc.sum l := Crc.turned_ne l k t u hkl ht0
    obtain ⟨T, hTT⟩ : ∃ T, T = Crc.turned l k t u := ⟨_, rfl⟩
    rw [← hTT] at hown hT hne
    have hmem : p ∈ [p] := by simp
    have hL1 : LT [p] w1 wc := LT.ext hE
    have hA : BT [p] wc (.slice a n c) l := ⟨h0.below (hb0.trans hE), hL1.tabs hps⟩
    have hgp : g ∉ [p] := by simp; omega
    have HP := Lib.hid hp
    clear hp hTT
    go_wp2_with fail
    refine (putT hmem hA (by omega)).mono ?_
    rintro e w5 ⟨v, rfl, hl5, hv⟩
    obtain ⟨a4, n4, c4, rfl⟩ := hv.1.isSlice
    obtain ⟨hn4, hnc4, hc4⟩ := hv.1.len
    rw [List.length_append, Crc.low_length] at hn4
    have hq : n ≤ n4 := by have := HN.out; omega
    obtain ⟨a5, ha5⟩ : ∃ a5, a5 = (if c4 = n then a4 else a4.map (·.add n)) := ⟨_, rfl⟩
    have hsub : Bytes w5 (.slice a5 (n4 - n) (c4 - n)) (Crc.low (Crc.sum l)) := by
      have := hv.1.sub n n4 hq (Nat.le_refl _)
      rw [← ha5] at this
      have e : ((l ++ Crc.low (Crc.sum l)).take n4).drop n = Crc.low (Crc.sum l) := by
        rw [List.take_of_length_le (by rw [List.length_append, Crc.low_length]; omega), HN.out, List.drop_left]
      rwa [e] at this
    have hslc : ∀ w : World, (Instr.sliceAt 22 (.slice a4 n4 c4) (some (.int .i64 (n : Int))) none none).run Try.prog w = .ok (.slice a5 (n4 - n) (c4 - n)) w := fun w => by rw [ha5]; exact run_sl_from Try.underlying22 (by kernel_rfl) n hq .i64
    have hown5 : w5.ownsRow w1.heap.size 5 1 (.slice (some ⟨g, 0, none⟩) l.length cap) l.length (u8s T) := ownsRow_lt hown hl5 (by intro q hq; cases hq; exact hgp)
    have hL5 := hL1.trans hl5
    have hA5 := hA.later hl5
    have hc5 : l.length + (u8s (Crc.low (Crc.sum l))).length ≤ maxLen := by rw [u8s_length, Crc.low_length]; simp [maxLen]; omega
    have hc6 : (l.length + (u8s (Crc.low (Crc.sum l))).length) * 1 ≤ 140737488355328 := by rw [u8s_length, Crc.low_length]; omega
    have hu5 := u8s_one (Crc.low (Crc.sum l))
    clear ha5 hv hn4 hown hA hL1 hl5
    go_wp2_with (at_builtin; refine wpList_app_keeps rfl (.tmp 66) (.tmp 72) tU8c rfl rfl rfl hown5 hsub hu5 hc5 hc6 hL5.size ?_; intro v6 w6 hown6 hg6 hkeep)
    have hL6 : LT [p] w1 w6 := hL5.grown hg6 (by intro q hq; cases hq; exact ⟨hgg.1, hgp⟩)
    have hT6 : TBs [p] w6 := hL6.tabs hps
    have hW6 : Below W.heap.size W w6 := Below.trans (B := W.heap.size) hb0 (hL6.below hb0.size (by intro q hq; have := HP.out; simp only [List.mem_cons, List.not_mem_nil, or_false] at hq; omega))
    have hA6 : BT [p] w6 (.slice a n c) l := ⟨h0.below hW6, hT6⟩
    have hC6 : BT [p] w6 (.slice (some ⟨g, 0, none⟩) l.length cap) T := ⟨hkeep, hT6⟩
    have hD6 : BT [p] w6 v6 (T ++ Crc.low (Crc.sum l)) := ⟨by have := Sl.ofOwn hown6; simpa [Bytes] using this, hT6⟩
    clear hslc hsub hown5 hu5 hc5 hc6 hown6 hg6 hkeep hL5 hA5 hnc4 hc4 hq
    refine (cutT hmem hD6 (by rw [List.length_append, Crc.low_length]; omega)).mono ?_
    rw [Crc.cut_other T l hne]
    rintro e w7 ⟨hl7, vb, rfl, hvb⟩
    have hA7 := hA6.later hl7
    have hC7 := hC6.later hl7
    have hL7 := hL6.trans hl7
    clear hvb hl7 hA6 hC6 hD6 hT6 hL6 hW6
    have hneI : ¬ ((Crc.sum T : Nat) : Int) = ((Crc.sum l : Nat) : Int) := by omega
    have hneb : (((Crc.sum T : Nat) : Int) != ((Crc.sum l : Nat) : Int)) = true := by simpa using hneI
    have HNE := Lib.hid (And.intro hneI hneb)
    clear hneI hneb hne hT
    go_wp2_with fail
    refine (alive_any _).mono ?_
    rintro e w8 ⟨rfl, hb8⟩
    have hA8 := hA7.later (LT.ext hb8)
    have hC8 := hC7.later (LT.ext hb8)
    have hL8 := hL7.trans (LT.ext hb8)
    clear hb8 hA7 hC7 hL7
    go_wp2_with fail
    refine (sumT hmem (row1T hC8)).mono ?_
    rintro e w9 ⟨rfl, hl9⟩
    have hl9' := (LT.ext (Ext.alloc _ _)).trans hl9
    have hA9 := hA8.later hl9'
    have hL9 := hL8.trans hl9'
    clear hl9 hl9' hA8 hC8 hL8
    rw [List.flatten_singleton]
    go_wp2_with fail
    refine (sumT hmem (row1T hA9)).mono ?_
    rintro e w10 ⟨rfl, hl10⟩
    have hL10 := hL9.trans ((LT.ext (Ext.alloc _ _)).trans hl10)
    rw [List.flatten_singleton]
    obtain ⟨hneI, hneb⟩ := HNE.out
    go_wp2_with fail
    go_ret
    exact ⟨rfl, Below.trans (B := W.heap.size) hb0 (hL10.below hb0.size (by intro q hq; have := HP.out; simp only [List.mem_cons, List.not_mem_nil, or_false] at hq; omega))⟩

theorem crcTurned_walk (a : Option Addr) (n c : Nat) (l : List UInt8) (z : Int) (v : Value) (W : World) (h0 : Bytes W (.slice a n c) l) (hz : (Lit.int .i64 z).wf = true) (hv : ∃ t u : UInt8, v = .agg #[.int .u8 (t.toNat : Int), .int .u8 (u.toNat : Int)]) :
    Calls Try.prog 6 #[.slice a n c, .int .i64 z, v] W fun e W' => e = .returned (.bool true) ∧ Below W.heap.size W W' := by
  obtain ⟨t, u, rfl⟩ := hv
  by_cases hbad : z < 0 ∨ (n : Int) ≤ z ∨ 20000 < n ∨ (t.toNat : Int) = 0
  · exact crcTurned_bad a n c l z t u W h0 hz hbad
  · obtain ⟨k, rfl⟩ : ∃ k : Nat, z = (k : Int) := ⟨z.toNat, by omega⟩
    exact crcTurned_good a n c l k t u W h0 (by omega) (by omega) (by rintro rfl; exact hbad (by simp))

namespace crcTurned
theorem own : ownKnob Try.prog.godebug = none := by kernel_rfl
theorem laidOut : laidOutB Try.prog = true := by kernel_rfl
set_option linter.unusedVariables false in
set_option maxRecDepth 100000 in
theorem lifted (os : Os) (started : os.Started) (H : Type) (enc : TypeId × Value → H) :
    ReturnsInHanded {} Try.checked os 6 .any (Rows.crcTurnedSpec.pre6 enc Try.prog Try.f6 Rows.crcTurnedRow.domain false) (Rows.crcTurnedSpec.post enc Try.prog Try.f6 false true false false) := by
  refine returnsInHanded_of_change (C := Try.checked) own started (by kernel_rfl) Try.func6
    (ChangeSpec.witness6 (enc := enc) (C := Try.checked) false ⟨#[], #[.slice none 0 0, .int .i64 0, .agg #[.int .u8 0, .int .u8 0]], []⟩ 8 (by kernel_rfl) (by kernel_rfl) (by kernel_rfl) (by kernel_rfl)) ?_
  intro W base args ds gs before hval0 hW hcnd _
  have hval : ∀ (j : Nat) t v, Try.f6.params[j]? = some t → args[j]? = some v → Value.okWide Try.prog W .any base t v := hval0
  have hW' := hW
  obtain ⟨p, q, hA0, hV, rfl, hfz, hnd⟩ := hW
  have hA : DataW.TrodAll enc Try.prog W 0 (fun _ => true) true Try.f6.params.toList args.toList ds p := hA0
  rw [Try.params6] at hA hval
  obtain ⟨v0, vs0, d0, ds0, p0, q0, hargs, rfl, rfl, h0, r0⟩ := trodAll_cons hA
  obtain ⟨v1, vs1, d1, ds1, p1, q1, rfl, rfl, rfl, h1, r1⟩ := trodAll_cons r0
  obtain ⟨v2, vs2, d2, ds2, p2, q2, rfl, rfl, rfl, h2, r2⟩ := trodAll_cons r1
  obtain ⟨rfl, rfl, rfl⟩ := trodAll_nil r2
  obtain rfl : args = #[v0, v1, v2] := by cases args; simp_all
  obtain ⟨rfl, rfl⟩ := trodVars_none hV
  have k0 := h0
  have lt0 : ∀ x ∈ p0, x.block < W.heap.size := by obtain ⟨m, hm⟩ := k0; exact DataW.trod_lt m _ _ _ hm
  obtain ⟨a0, len0, cap0, rfl⟩ := okWide_slice Try.underlying22 (hval 0 22 v0 rfl rfl)
  obtain ⟨l0, w0⟩ : ∃ l, Bytes W (.slice a0 len0 cap0) l := by
    obtain ⟨fuel, hf⟩ := h0
    obtain ⟨v, l, hcs, hb⟩ := bytes_of_raw Try.underlying22 Try.underlying5 (by kernel_rfl) hf
    simp [Value.cells] at hcs
    subst hcs
    exact ⟨l, hb⟩
  have k1 := h1
  have lt1 : ∀ x ∈ p1, x.block < W.heap.size := by obtain ⟨m, hm⟩ := k1; exact DataW.trod_lt m _ _ _ hm
  obtain ⟨a1, rfl, _, _, w1⟩ := open_int Try.underlying3 (hval 1 3 v1 rfl rfl) h1
  have k2 := h2
  have lt2 : ∀ x ∈ p2, x.block < W.heap.size := by obtain ⟨m, hm⟩ := k2; exact DataW.trod_lt m _ _ _ hm
  have w2 := pair_of_raw Try.underlying36 Try.underlying5 (by kernel_rfl) (by kernel_rfl) (hval 2 _ v2 rfl rfl) h2
  clear hA0 hval0
  refine (crcTurned_walk a0 len0 cap0 l0 a1 v2 W w0 w1 w2).mono fun e W' ⟨he, bel⟩ => ?_
  subst he
  exact ⟨_, rfl, _, _, _, [], _, [], hW', trodAll_mk1 (shut_bool Try.underlying4 _), (trodAll_cons_mk (Below.trod laidOut (by kernel_rfl) (of_decide_eq_true (by kernel_rfl)) k0 bel lt0) (trodAll_cons_mk (Below.trod laidOut (by kernel_rfl) (of_decide_eq_true (by kernel_rfl)) k1 bel lt1) (trodAll_cons_mk (Below.trod laidOut (by kernel_rfl) (of_decide_eq_true (by kernel_rfl)) k2 bel lt2) trodAll_mk0))), rfl, bel.frame _, fun h => by cases h⟩
theorem over : Rows.crcTurnedRow.holds Try.pinned (OpenSpec.ofChange Rows.crcTurnedSpec) :=
  OpenClaim.holds_of_wide 6 Try.f6 rfl rfl rfl rfl rfl rfl rfl ⟨rfl, rfl, rfl, rfl, rfl⟩ rfl rfl rfl rfl rfl (by kernel_rfl) Try.func6 (by kernel_rfl)
    (of_decide_eq_true (by kernel_rfl)) (by unfold Func.isWrapper; first | (rw [if_pos (by decide +kernel)]; kernel_rfl) | (rw [if_neg (by decide +kernel)]; exact ⟨rfl, rfl⟩))
    (fun os started H enc _ => lifted os started H enc)
theorem proved : Rows.CrcTurnedSaid := over
end crcTurned
end Go.Proofs.Ytkgpcgcglbaehaa
