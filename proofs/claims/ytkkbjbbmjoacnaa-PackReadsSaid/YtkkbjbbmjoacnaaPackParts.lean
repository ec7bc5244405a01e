/-
  Layer 2: parts, as they come in; the statements' own small functions.
-/
import Derived.Test.YtkkbjbbmjoacnaaPackAlive
namespace Go.Proofs.Ytkkbjbbmjoacnaa
open Go.RowKit

/-- A part's cells. -/
def partCells (p : Pack.Part) : List Value := [.int .i64 p.kind, .int .i64 p.n, .int .i64 p.most, .string ⟨p.s.toArray⟩, .bool p.is]
/-- A part stands here. -/
def PartAt (w : World) (b o : Nat) (p : Pack.Part) : Prop :=
  w.cell? ⟨b, o, none⟩ = some (.int .i64 p.kind) ∧ w.cell? ⟨b, o + 1, none⟩ = some (.int .i64 p.n) ∧ w.cell? ⟨b, o + 2, none⟩ = some (.int .i64 p.most) ∧ w.cell? ⟨b, o + 3, none⟩ = some (.string ⟨p.s.toArray⟩) ∧ w.cell? ⟨b, o + 4, none⟩ = some (.bool p.is)
theorem PartAt.of {w w' : World} {b o : Nat} {p : Pack.Part} (h : PartAt w b o p) (hb : w'.heap[b]? = w.heap[b]?) : PartAt w' b o p := by
  obtain ⟨h1, h2, h3, h4, h5⟩ := h
  have key : ∀ i, w'.cell? ⟨b, i, none⟩ = w.cell? ⟨b, i, none⟩ := fun i => World.cell?_of_block (w := w) hb
  exact ⟨(key _).trans h1, (key _).trans h2, (key _).trans h3, (key _).trans h4, (key _).trans h5⟩
/-- A slice of parts reads as these. -/
def Parts (w : World) (v : Value) (ps : List Pack.Part) : Prop :=
  ∃ (a : Option Addr) (cap : Nat), v = .slice a ps.length cap ∧ ps.length ≤ cap ∧ cap ≤ maxLen ∧ (∀ i (h : i < ps.length), ps[i].s.length ≤ maxLen) ∧
    ∀ i (h : i < ps.length), ∃ b off, a = some ⟨b, off, none⟩ ∧ PartAt w b (off + i * 5) ps[i]
theorem Parts.below {w w' : World} {v : Value} {ps : List Pack.Part} (h : Parts w v ps) (hb : Below w.heap.size w w') : Parts w' v ps := by
  obtain ⟨a, cap, rfl, h1, h2, h4, h3⟩ := h
  refine ⟨a, cap, rfl, h1, h2, h4, fun i hi => ?_⟩
  obtain ⟨b, off, e, hc⟩ := h3 i hi
  exact ⟨b, off, e, hc.of (hb.block b (World.block_lt_of_cell? w _ hc.1))⟩

theorem mass_take (ps : List Pack.Part) (k : Nat) (hk : k < ps.length) : ps.length + (((ps.take k).map (fun p => p.s.length)).sum + ps[k].s.length) ≤ Pack.mass ps := by
  unfold Pack.mass
  have h1 : ps = ps.take k ++ ps[k] :: ps.drop (k + 1) := by
    conv => lhs; rw [← List.take_append_drop k ps, List.drop_eq_getElem_cons hk]
  have h2 : (ps.map (fun p => p.s.length)).sum = ((ps.take k).map (fun p => p.s.length)).sum + (ps[k].s.length + ((ps.drop (k + 1)).map (fun p => p.s.length)).sum) := by
    conv => lhs; rw [h1, List.map_append, List.map_cons, List.sum_append, List.sum_cons]
  omega
theorem sum_snoc (ps : List Pack.Part) (k : Nat) (hk : k < ps.length) : ((ps.take (k + 1)).map (fun p => p.s.length)).sum = ((ps.take k).map (fun p => p.s.length)).sum + ps[k].s.length := by
  rw [take_succ_getD ps k hk, List.map_append, List.sum_append, List.map_cons, List.map_nil, List.sum_cons, List.sum_nil, Nat.add_zero]

set_option maxRecDepth 100000 in
set_option maxHeartbeats 2000000 in
theorem few_any (v : Value) (ps : List Pack.Part) (w : World) (h : Parts w v ps) (hm : Pack.mass ps ≤ 4611686018427387904) :
    Calls Try.prog 28 #[v] w fun e w' => e = .returned (.bool (decide (Pack.mass ps ≤ 20000))) ∧ Ext w w' := by
  have HP := Lib.hid h
  obtain ⟨a, cap, rfl, h1, h2, h4, h3⟩ := h
  clear h3
  unfold maxLen at h2
  go_enter Try.func28, Try.ntmps28
  go_wp2
  go_loopw [3, 5, 10] (fun n _ i wr => ∃ k m : Nat, k ≤ ps.length ∧ i = .int .i64 k ∧ n = .int .i64 m ∧ Hid (m = ps.length + ((ps.take k).map (fun p => p.s.length)).sum) ∧ Ext w wr) (fun _ _ i _ => ps.length - (intOf i).toNat)
  case atStart => exact ⟨0, ps.length, by omega, rfl, rfl, by simp [Hid], Ext.refl _⟩
  case round =>
    obtain ⟨k, m, hk, rfl, rfl, hmm, hbr⟩ := hrel
    by_cases hlt : k < ps.length
    · obtain ⟨a', cap', e', _, _, _, hc⟩ := (HP.out.below hbr)
      obtain ⟨b, off, rfl, hcell⟩ := hc k hlt
      injection e' with e1 e2 e3
      subst e1
      obtain ⟨p0, p1, p2, p3, p4⟩ := hcell
      have hmt := mass_take ps k hlt
      have hsum : m + ps[k].s.length ≤ 4611686018427387904 := by rw [hmm.out]; omega
      clear hc e2 e3 hmt
      go_wp2
      go_roundw
      case rel => exact ⟨k + 1, m + ps[k].s.length, by omega, by go_num, by go_num, by unfold Hid; rw [sum_snoc ps k hlt, hmm.out]; omega, hbr.trans (Ext.alloc _ _)⟩
      case measure => simp [intOf]; omega
    · have hall : ps.take k = ps := List.take_of_length_le (by omega)
      rw [hall] at hmm
      go_wp2
      go_ret
      refine ⟨?_, hbr⟩
      have : m = Pack.mass ps := hmm.out
      rw [← this]
      have : decide ((m : Int) ≤ 20000) = decide (m ≤ 20000) := by rw [Bool.eq_iff_iff]; simp; omega
      rw [← this]
      rfl

theorem bytes_of_take (ps : List Pack.Part) (k : Nat) (hm : Pack.mass ps ≤ 2097152) : (Pack.written (ps.take k)).length ≤ 60000000 := by
  have h1 := Pack.written_le (ps.take k)
  have h2 : (ps.take k).length ≤ ps.length := by simp; omega
  have h3 : ((ps.take k).map (fun p => p.s.length)).sum ≤ (ps.map (fun p => p.s.length)).sum := by
    conv => rhs; rw [← List.take_append_drop k ps, List.map_append, List.sum_append]
    omega
  unfold Pack.mass at hm
  omega
theorem step_kind0 (p : Pack.Part) (hk : p.kind = 0) (l : List UInt8) : (if [p.n].all okNum then l ++ nums [p.n] else l) = l ++ p.bytes ∧ [p.n].all okNum = p.good := by
  unfold Pack.Part.bytes Pack.Part.good
  simp only [hk, if_true, all_one]
  unfold okNum
  by_cases h : 0 ≤ p.n ∧ p.n ≤ 4611686018427387904
  · simp only [h, and_self, decide_true, if_true, and_true]
    simp [nums]
  · simp only [h, decide_false, if_false, Bool.false_eq_true, and_true]
    simp
theorem step_kind1 (p : Pack.Part) (hk : p.kind = 1) (l : List UInt8) : (if p.s.length ≤ 65536 then l ++ (Pack.num p.s.length ++ p.s) else l) = l ++ p.bytes ∧ decide (p.s.length ≤ 65536) = p.good := by
  unfold Pack.Part.bytes Pack.Part.good
  have h0 : ¬ p.kind = 0 := by omega
  rw [if_neg h0, if_neg h0, if_pos hk, if_pos hk]
  refine ⟨?_, rfl⟩
  split <;> simp
theorem step_kind2 (p : Pack.Part) (hk : p.kind = 2) (l : List UInt8) : l ++ [if p.is then 1 else 0] = l ++ p.bytes ∧ p.good = true := by
  unfold Pack.Part.bytes Pack.Part.good
  have h0 : ¬ p.kind = 0 := by omega
  have h1 : ¬ p.kind = 1 := by omega
  rw [if_neg h0, if_neg h1, if_pos hk, if_neg h0, if_neg h1]
  exact ⟨rfl, rfl⟩
theorem step_kind3 (p : Pack.Part) (h0 : p.kind ≠ 0) (h1 : p.kind ≠ 1) (h2 : p.kind ≠ 2) (l : List UInt8) : l = l ++ p.bytes ∧ p.good = true := by
  unfold Pack.Part.bytes Pack.Part.good
  rw [if_neg h0, if_neg h1, if_neg h2, if_neg h0, if_neg h1]
  simp

theorem Own.mono {w : World} {b b' : Nat} {v : Value} {l : List UInt8} (h : Own w b v l) (hb : b' ≤ b) : Own w b' v l := by
  obtain ⟨h1, h | ⟨g, cap, cur, e, hg, r⟩⟩ := h
  · exact ⟨h1, .inl h⟩
  · exact ⟨h1, .inr ⟨g, cap, cur, e, Nat.le_trans hb hg, r⟩⟩
theorem Own.ext {w w' : World} {b : Nat} {v : Value} {l : List UInt8} (h : Own w b v l) (hb : Ext w w') : Own w' b v l := by
  obtain ⟨h1, h | ⟨g, cap, cur, e, hg, hh, r⟩⟩ := h
  · exact ⟨h1, .inl h⟩
  · exact ⟨h1, .inr ⟨g, cap, cur, e, hg, by rw [hb.block g (Array.getElem?_eq_some_iff.1 hh).1]; exact hh, r⟩⟩
theorem Ints.two (w : World) (o : Obj) (n : Int) : Ints ((w.alloc o).alloc (.cells #[.int .i64 n] 3)) (.slice (some ⟨w.heap.size + 1, 0, none⟩) 1 1) [n] := by
  have := Ints.one (w.alloc o) n
  rwa [World.size_alloc] at this
set_option maxRecDepth 100000 in
set_option maxHeartbeats 4000000 in
theorem write_any (v : Value) (ps : List Pack.Part) (w : World) (h : Parts w v ps) (hm : Pack.mass ps ≤ 2097152) :
    Calls Try.prog 30 #[v] w fun e w' => ∃ a n c, e = .returned (.tuple #[.slice a n c, .bool (Pack.allGood ps)]) ∧ Own w' w.heap.size (.slice a n c) (Pack.written ps) ∧ Ext w w' := by
  have HP := Lib.hid h
  obtain ⟨a, cap, rfl, h1, h2, h4, h3⟩ := h
  clear h3
  unfold maxLen at h2
  go_enter Try.func30, Try.ntmps30
  go_wp2
  go_loopw [4, 5, 7, 8, 11] (fun b all _ _ i wr => ∃ (k : Nat) (a : Option Addr) (n c : Nat) (g : Bool), k ≤ ps.length ∧ i = .int .i64 k ∧ b = .slice a n c ∧ all = .bool g ∧ Hid (g = Pack.allGood (ps.take k)) ∧ Hid (Own wr w.heap.size (.slice a n c) (Pack.written (ps.take k))) ∧ Ext w wr) (fun _ _ _ _ i _ => ps.length - (intOf i).toNat)
  case atStart => exact ⟨0, none, 0, 0, true, by omega, rfl, rfl, rfl, rfl, Own.nil _ _, Ext.refl _⟩
  case round =>
    obtain ⟨k, a2, n2, c2, g, hk, rfl, rfl, rfl, hg, hby, hbr⟩ := hrel
    by_cases hlt : k < ps.length
    · obtain ⟨a', cap', e', _, _, _, hc⟩ := (HP.out.below hbr)
      obtain ⟨b, off, rfl, hcell⟩ := hc k hlt
      injection e' with e1 e2 e3
      subst e1
      obtain ⟨p0, p1, p2, p3, p4⟩ := hcell
      have hlen := bytes_of_take ps k hm
      have hstr := h4 k hlt
      unfold maxLen at hstr
      have hw : Pack.written (ps.take (k + 1)) = Pack.written (ps.take k) ++ ps[k].bytes := by rw [take_succ_getD ps k hlt, Pack.written_snoc]
      have hgd : Pack.allGood (ps.take (k + 1)) = (Pack.allGood (ps.take k) && ps[k].good) := by rw [take_succ_getD ps k hlt, Pack.allGood_snoc]
      have HW := Lib.hid hw
      have HG := Lib.hid hgd
      have hbe : ∀ o : Obj, Ext w (wr.alloc o) := fun o => hbr.trans (Ext.alloc _ o)
      clear hc e2 e3 hw hgd
      by_cases k0 : ps[k].kind = 0
      · obtain ⟨s1, s2⟩ := step_kind0 ps[k] k0 (Pack.written (ps.take k))
        have S1 := Lib.hid s1
        have S2 := Lib.hid s2
        rw [k0] at p0
        clear s1 s2 k0
        cases g
        all_goals
          go_wp2_with (go_at_call 40; refine (packNum_any _ _ (Pack.written (ps.take k)) [ps[k].n] _ (hby.out.bytes.below ((Ext.alloc _ _).trans (Ext.alloc _ _))) (Ints.two _ _ _) (by omega) (by simp)).mono ?_; rintro e w1 ⟨v1, rfl, ho1, hb1⟩; rw [S1.out] at ho1; rw [S2.out]; obtain ⟨a3, n3, c3, rfl⟩ := ho1.isSlice)
          go_roundw
          case rel => exact ⟨k + 1, a3, n3, c3, _, by omega, by go_num, rfl, rfl, by unfold Hid; rw [HG.out, ← hg.out]; rfl, by unfold Hid; rw [HW.out]; exact ho1.mono (by simp only [World.size_alloc]; have := hbr.size; omega), ((hbe _).trans (Ext.alloc _ _)).trans hb1⟩
          case measure => simp [intOf]; omega
      · have q0 : (ps[k].kind == 0) = false := by simp [k0]
        by_cases k1 : ps[k].kind = 1
        · obtain ⟨s1, s2⟩ := step_kind1 ps[k] k1 (Pack.written (ps.take k))
          have S1 := Lib.hid s1
          have S2 := Lib.hid s2
          rw [k1] at p0
          clear s1 s2 k0 k1 q0
          cases g
          all_goals
            go_wp2_with (go_at_call 46; refine (packText_any _ (Pack.written (ps.take k)) ps[k].s _ (hby.out.bytes.below (Ext.alloc _ _)) (by omega) (by omega)).mono ?_; rintro e w1 ⟨v1, rfl, ho1, hb1⟩; rw [S1.out] at ho1; rw [S2.out]; obtain ⟨a3, n3, c3, rfl⟩ := ho1.isSlice)
            go_roundw
            case rel => exact ⟨k + 1, a3, n3, c3, _, by omega, by go_num, rfl, rfl, by unfold Hid; rw [HG.out, ← hg.out]; rfl, by unfold Hid; rw [HW.out]; exact ho1.mono (by simp only [World.size_alloc]; have := hbr.size; omega), (hbe _).trans hb1⟩
            case measure => simp [intOf]; omega
        · have q1 : (ps[k].kind == 1) = false := by simp [k1]
          by_cases k2 : ps[k].kind = 2
          · obtain ⟨s1, s2⟩ := step_kind2 ps[k] k2 (Pack.written (ps.take k))
            have S1 := Lib.hid s1
            have S2 := Lib.hid s2
            rw [k2] at p0
            clear s1 s2 k0 k1 k2 q0 q1
            cases g
            all_goals
              go_wp2_with (go_at_call 48; refine (packBool_any _ (Pack.written (ps.take k)) ps[k].is _ (hby.out.bytes.below (Ext.alloc _ _)) (by omega)).mono ?_; rintro e w1 ⟨v1, rfl, ho1, hb1⟩; rw [S1.out] at ho1; obtain ⟨a3, n3, c3, rfl⟩ := ho1.isSlice)
              go_roundw
              case rel => exact ⟨k + 1, a3, n3, c3, _, by omega, by go_num, rfl, rfl, by unfold Hid; rw [HG.out, ← hg.out, S2.out]; rfl, by unfold Hid; rw [HW.out]; exact ho1.mono (by simp only [World.size_alloc]; have := hbr.size; omega), (hbe _).trans hb1⟩
              case measure => simp [intOf]; omega
          · have q2 : (ps[k].kind == 2) = false := by simp [k2]
            obtain ⟨s1, s2⟩ := step_kind3 ps[k] k0 k1 k2 (Pack.written (ps.take k))
            have S1 := Lib.hid s1
            have S2 := Lib.hid s2
            clear s1 s2 k0 k1 k2
            cases g
            all_goals
              go_wp2
              go_roundw
              case rel => exact ⟨k + 1, a2, n2, c2, _, by omega, by go_num, rfl, rfl, by unfold Hid; rw [HG.out, ← hg.out, S2.out]; rfl, by unfold Hid; rw [HW.out, ← S1.out]; exact hby.out.ext (Ext.alloc _ _), hbe _⟩
              case measure => simp [intOf]; omega
    · have hall : ps.take k = ps := List.take_of_length_le (by omega)
      rw [hall] at hg hby
      go_wp2
      go_ret2
      exact ⟨a2, n2, c2, by rw [← hg.out]; rfl, hby.out, hbr⟩
end Go.Proofs.Ytkkbjbbmjoacnaa
