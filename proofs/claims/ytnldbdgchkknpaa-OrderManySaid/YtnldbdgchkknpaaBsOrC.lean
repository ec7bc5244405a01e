/-
  Merged: Layer 15, the program: Of.
-/
import Derived.Test.YtnldbdgchkknpaaBsEnt
import Derived.Test.YtnldbdgchkknpaaBsOrB

namespace Go.Proofs.Ytnldbdgchkknpaa
set_option linter.unusedSimpArgs false
set_option linter.unusedVariables false
set_option maxRecDepth 100000
open Go.RowKit
/- Layer 15, the program: Of; the statements' own rows of entries, and whether they are few. -/
/-- The entries that are added, up to the first that is refused. -/
def Ord.of : List (List Int) → List Ent.E → List (List Int)
  | cs, [] => cs
  | cs, e :: l => if Ord.addErr cs e = 0 then Ord.of (cs ++ [Ord.now cs e]) l else cs
theorem Ord.of_long : ∀ (l : List Ent.E) (cs : List (List Int)), cs.length ≤ (Ord.of cs l).length ∧ (Ord.of cs l).length ≤ cs.length + l.length := by
  intro l
  induction l with
  | nil => intro cs; exact ⟨Nat.le_refl _, Nat.le_refl _⟩
  | cons e l ih =>
    intro cs
    unfold Ord.of
    split
    · have := ih (cs ++ [Ord.now cs e])
      simp only [List.length_append, List.length_cons, List.length_nil] at this ⊢
      omega
    · simp
theorem Ord.of_cons (cs : List (List Int)) (e : Ent.E) (l : List Ent.E) : Ord.of cs (e :: l) = if Ord.addErr cs e = 0 then Ord.of (cs ++ [Ord.now cs e]) l else cs := rfl
theorem Ord.of_append : ∀ (l m : List Ent.E) (cs : List (List Int)), (Ord.of cs l).length = cs.length + l.length → Ord.of cs (l ++ m) = Ord.of (Ord.of cs l) m := by
  intro l
  induction l with
  | nil => intro m cs _; rfl
  | cons e l ih =>
    intro m cs h
    rw [List.cons_append, Ord.of_cons, Ord.of_cons]
    rw [Ord.of_cons] at h
    by_cases he : Ord.addErr cs e = 0
    · rw [if_pos he] at h
      rw [if_pos he, if_pos he]
      exact ih m _ (by simp only [List.length_append, List.length_cons, List.length_nil] at h ⊢; omega)
    · rw [if_neg he] at h
      simp at h
theorem Ord.of_one (cs : List (List Int)) (e : Ent.E) (l : List Ent.E) : Ord.of cs (e :: l) = if Ord.addErr cs e = 0 then Ord.of (Ord.add cs e) l else cs := by
  rw [Ord.of]
  split
  · rename_i h
    unfold Ord.add
    rw [if_pos h]
  · rfl
/-- One more is added. -/
theorem Ord.of_succ {cs : List (List Int)} {l : List Ent.E} {k : Nat} (hk : k < l.length) (h : (Ord.of cs (l.take k)).length = cs.length + k) (he : Ord.addErr (Ord.of cs (l.take k)) l[k] = 0) :
    Ord.of cs (l.take (k + 1)) = Ord.add (Ord.of cs (l.take k)) l[k] ∧ (Ord.add (Ord.of cs (l.take k)) l[k]).length = cs.length + (k + 1) := by
  have h1 : Ord.of cs (l.take (k + 1)) = Ord.add (Ord.of cs (l.take k)) l[k] := by
    rw [List.take_succ_eq_append_getElem hk, Ord.of_append _ _ _ (by rw [h, List.length_take]; omega), Ord.of_one, if_pos he]
    rfl
  refine ⟨h1, ?_⟩
  unfold Ord.add
  rw [if_pos he, List.length_append, h]
  rfl
theorem Ord.of_stop {cs : List (List Int)} {l : List Ent.E} {k : Nat} (hk : k < l.length) (h : (Ord.of cs (l.take k)).length = cs.length + k) (he : ¬ Ord.addErr (Ord.of cs (l.take k)) l[k] = 0) : Ord.of cs l = Ord.of cs (l.take k) := by
  have h1 : l = l.take k ++ l[k] :: l.drop (k + 1) := by
    rw [List.getElem_cons_drop, List.take_append_drop]
  conv => lhs; rw [h1]
  rw [Ord.of_append _ _ _ (by rw [h, List.length_take]; omega), Ord.of_one, if_neg he]
theorem Ord.addErr_refused {cs : List (List Int)} {e : Ent.E} (h : ¬ Ord.addErr cs e = 0) : Ord.add cs e = cs := by unfold Ord.add; rw [if_neg h]

set_option maxHeartbeats 4000000 in
theorem mine15_any (v : Value) (l : List Ent.E) (w : World) (hv : Ents w v l) (hl : l.length * 64 ≤ 140737488355328) :
    Calls Try.prog 8 #[v] w fun x w' => ∃ u, x = .returned u ∧ OwnEnts w w' w.heap.size u l ∧ Ext w w' := by
  have HV := Lib.hid hv
  obtain ⟨a, cap, rfl, hcap, hmax⟩ := hv.shape
  clear hv
  have te := tE
  go_enter Try.func8, Try.ntmps8
  go_wp2_with fail
  go_loopw [3, 5, 8] (fun o _ i wr => ∃ k : Nat, k ≤ l.length ∧ i = .int .i64 k ∧ Hid (OwnEnts w wr w.heap.size o (l.take k)) ∧ Ext w wr) (fun _ _ i _ => l.length - (intOf i).toNat)
  case atStart => exact ⟨0, by omega, rfl, OwnEnts.nil _ _ _, Ext.refl _⟩
  case round =>
    obtain ⟨k, hk, rfl, ho, hE⟩ := hrel
    by_cases hlt : k < l.length
    · obtain ⟨a', cap', e', _, _, _, hc⟩ := HV.out
      obtain ⟨b, off, rfl, t, p0, p1, p2, p3, p4, p5, ht⟩ := hc k hlt
      injection e' with e1' e2' e3'
      subst e1'
      clear hc e2' e3'
      have hb := World.block_lt_of_cell? _ _ p0
      have key : ∀ i, wr.cell? ⟨b, i, none⟩ = w.cell? ⟨b, i, none⟩ := fun i => hE.cell (p := ⟨b, i, none⟩) hb
      rw [← key] at p0 p1 p2 p3 p4 p5
      clear key hb
      obtain ⟨a2, cap2, rfl, hcap2, hmax2, _, _⟩ := ht.open
      have hnx := take_succ_getD l k hlt
      have HT := Lib.hid ht
      obtain ⟨ps, hps, hpi, hown⟩ := ho.out
      generalize l[k] = R at *
      obtain ⟨n, kd, c, tg, m, p⟩ := R
      simp only at *
      have HNX := Lib.hid hnx
      have hlk : (l.take k).length = k := by rw [List.length_take]; omega
      rw [hlk] at hown
      have HPS := Lib.hid hps
      have HPI := Lib.hid hpi
      obtain ⟨ao, no, co, rfl⟩ := ownSlice hown
      have hEa : Ext wr (wr.alloc (.cells #[.int .i64 n, .int .i64 kd, .slice a2 c.length cap2, .int .i64 tg, .int .i64 m, .int .i64 p] 56)) := Ext.alloc _ _
      have hEb : Ext (wr.alloc (.cells #[.int .i64 n, .int .i64 kd, .slice a2 c.length cap2, .int .i64 tg, .int .i64 m, .int .i64 p] 56)) ((wr.alloc (.cells #[.int .i64 n, .int .i64 kd, .slice a2 c.length cap2, .int .i64 tg, .int .i64 m, .int .i64 p] 56)).alloc (.cells #[.int .i64 n, .int .i64 kd, .slice a2 c.length cap2, .int .i64 tg, .int .i64 m, .int .i64 p] 55)) := Ext.alloc _ _
      have O2 := Lib.hid (rowExt (rowExt hown hEa) hEb)
      have HSL := Lib.hid (SlN.one6 (T := 55) (wr.alloc (.cells #[.int .i64 n, .int .i64 kd, .slice a2 c.length cap2, .int .i64 tg, .int .i64 m, .int .i64 p] 56)) (.slice a2 c.length cap2) ⟨n, kd, c, tg, m, p⟩)
      have HSL2 := Lib.hid (show SlN 6 ((wr.alloc (.cells #[.int .i64 n, .int .i64 kd, .slice a2 c.length cap2, .int .i64 tg, .int .i64 m, .int .i64 p] 56)).alloc (.cells #[.int .i64 n, .int .i64 kd, .slice a2 c.length cap2, .int .i64 tg, .int .i64 m, .int .i64 p] 55)) (.slice (some ⟨wr.heap.size + 1, 0, none⟩) 1 1) 1 (entFlat [(.slice a2 c.length cap2, ⟨n, kd, c, tg, m, p⟩)]) by have := HSL.out; rwa [World.size_alloc] at this)
      have hone := entFlat_one (w := w) (ps := [(.slice a2 c.length cap2, ⟨n, kd, c, tg, m, p⟩)]) (by intro q hq; obtain rfl := List.mem_singleton.1 hq; exact HT.out)
      have hk1 : k + 1 ≤ maxLen := by unfold maxLen; omega
      have hk2 : (k + 1) * 64 ≤ 140737488355328 := by omega
      have hEw := Lib.hid ((hE.trans hEa).trans hEb)
      clear hps hpi hown hnx hlk ht
      go_wp2_with (at_builtin; refine wpList_appN rfl (.tmp 12) (.tmp 14) te rfl rfl rfl O2.out HSL2.out hone hk1 hk2 hEw.out.size ?_; intro v9 w9 hown9 hg9)
      obtain ⟨a9, n9, c9, rfl⟩ := ownSlice hown9
      have hE9 : Ext w w9 := Below.grown hEw.out hg9 hEw.out.size (fun j hj => (O2.out.lt j hj).1)
      have HO9 := Lib.hid hown9
      clear hown9 hg9
      go_wp2_with fail
      go_roundw
      case rel =>
        refine ⟨k + 1, by omega, by go_num, ?_, hE9⟩
        unfold Hid
        rw [HNX.out]
        refine ⟨ps ++ [(.slice a2 c.length cap2, ⟨n, kd, c, tg, m, p⟩)], by rw [List.map_append, HPS.out]; rfl, ?_, ?_⟩
        · intro q hq
          rcases List.mem_append.1 hq with h | h
          · exact HPI.out q h
          · obtain rfl := List.mem_singleton.1 h
            exact HT.out
        · rw [List.length_append, List.length_take, Nat.min_eq_left hk, entFlat_append]
          exact HO9.out
      case measure => simp [intOf]; omega
    · have hall : l.take k = l := List.take_of_length_le (by omega)
      rw [hall] at ho
      obtain ⟨ao, co, rfl⟩ := ho.out.isSlice
      clear hall
      go_wp2_with fail
      go_ret
      exact ⟨_, rfl, ho.out, hE⟩

def Ord.zero (n : Int) : List (List Int) := [List.replicate n.toNat 0]
/-- What Of gives. -/
def GivesOf15 (n : Int) (l : List Ent.E) (w : World) (x : Ending) (w' : World) : Prop :=
  (¬ (1 ≤ n ∧ n ≤ 8) ∧ x = .returned (.tuple #[.pointer none, .int .i64 0]) ∧ Ext w w') ∨
  (∃ p m, (1 ≤ n ∧ n ≤ 8) ∧ x = .returned (.tuple #[.pointer (some ⟨p, 0, none⟩), .int .i64 (m : Nat)]) ∧ (Ord.of (Ord.zero n) l).length = m + 1 ∧ IsOrd w' w.heap.size p (Ord.of (Ord.zero n) l) ∧ Ext w w')
set_option maxHeartbeats 4000000 in
theorem of15_any (n : Int) (v : Value) (l : List Ent.E) (w : World) (hv : Ents w v l) (hl : l.length * 64 ≤ 140737488355328) (hc : ∀ e ∈ l, e.cut.length ≤ 17592186044416) :
    Calls Try.prog 7 #[.int .i64 n, v] w (GivesOf15 n l w) := by
  have HV := Lib.hid hv
  obtain ⟨a, cap, rfl, hcap, hmax⟩ := hv.shape
  have HC := Lib.hid hc
  clear hv hc
  go_enter Try.func7, Try.ntmps7
  go_wp2_with fail
  refine (new15_any n w).mono ?_
  rintro x w1 (⟨hn, rfl, hE⟩ | ⟨p, hn, rfl, hp, hE⟩)
  · go_wp2_with fail
    go_ret2
    exact .inl ⟨hn, rfl, hE⟩
  have HI0 := Lib.hid (show IsOrd w1 w.heap.size p (Ord.of (Ord.zero n) (l.take 0)) from hp)
  have HE := Lib.hid hE
  have HNN := Lib.hid hn
  clear hp hE hn
  have hend : ∀ (k : Nat) (wr : World), k ≤ l.length → IsOrd wr w.heap.size p (Ord.of (Ord.zero n) (l.take k)) → Ext w wr → (Ord.of (Ord.zero n) (l.take k)).length = k + 1 → Ord.of (Ord.zero n) l = Ord.of (Ord.zero n) (l.take k) → GivesOf15 n l w (.returned (.tuple #[.pointer (some ⟨p, 0, none⟩), .int .i64 (k : Nat)])) wr := fun k wr hk hi he hlen hall => .inr ⟨p, k, HNN.out, rfl, by rw [hall]; exact hlen, by rw [hall]; exact hi, he⟩
  have HEND := Lib.hid hend
  clear hend
  go_wp2_with fail
  go_loopw [9, 19] (fun _ i wr => ∃ k : Nat, k ≤ l.length ∧ i = .int .i64 k ∧ Hid (IsOrd wr w.heap.size p (Ord.of (Ord.zero n) (l.take k)) ∧ Ext w wr ∧ (Ord.of (Ord.zero n) (l.take k)).length = k + 1)) (fun _ i _ => l.length - (intOf i).toNat)
  case atStart => exact ⟨0, by omega, rfl, Lib.hid ⟨HI0.out, HE.out, rfl⟩⟩
  case round =>
    obtain ⟨k, hk, rfl, hI⟩ := hrel
    by_cases hlt : k < l.length
    · obtain ⟨a', cap', e', _, _, _, hc⟩ := HV.out
      obtain ⟨b, off, rfl, t, p0, p1, p2, p3, p4, p5, ht⟩ := hc k hlt
      injection e' with e1' e2' e3'
      subst e1'
      clear hc e2' e3'
      have hb := World.block_lt_of_cell? _ _ p0
      have key : ∀ i, wr.cell? ⟨b, i, none⟩ = w.cell? ⟨b, i, none⟩ := fun i => hI.out.2.1.cell (p := ⟨b, i, none⟩) hb
      rw [← key] at p0 p1 p2 p3 p4 p5
      clear key hb
      obtain ⟨a2, cap2, rfl, hcap2, hmax2, _, _⟩ := ht.open
      have hcut := HC.out _ (List.getElem_mem hlt)
      obtain ⟨R, hR⟩ : ∃ z, l[k] = z := ⟨_, rfl⟩
      have HR := Lib.hid hR
      rw [hR] at p0 p1 p2 p3 p4 p5 ht hcut hcap2
      obtain ⟨q0, q1, c, q3, q4, q5⟩ := R
      simp only at p0 p1 p2 p3 p4 p5 ht hcut hcap2 ⊢
      have HT := Lib.hid ht
      have hEa : Ext wr (wr.alloc (.cells #[.int .i64 q0, .int .i64 q1, .slice a2 c.length cap2, .int .i64 q3, .int .i64 q4, .int .i64 q5] 55)) := Ext.alloc _ _
      have HEA := Lib.hid hEa
      have HADD := Lib.hid (add15_any (w := wr.alloc (.cells #[.int .i64 q0, .int .i64 q1, .slice a2 c.length cap2, .int .i64 q3, .int .i64 q4, .int .i64 q5] 55)) (entV (.slice a2 c.length cap2) ⟨q0, q1, c, q3, q4, q5⟩) ⟨q0, q1, c, q3, q4, q5⟩ (hI.out.1.ext hEa) ⟨_, rfl, HT.out.below (hI.out.2.1.trans hEa)⟩ hcut (by rw [hI.out.2.2]; omega) (Nat.le_trans hI.out.2.1.size hEa.size))
      unfold entV at HADD
      simp only at HADD
      clear ht hR hEa
      go_wp2_with fail
      refine HADD.out.mono ?_
      rintro x w3 ⟨rfl, hi3, hb3⟩
      have HE3 := Lib.hid (show Ext w w3 from Below.trans (B := w.heap.size) (hI.out.2.1.trans HEA.out) hb3)
      have HI3 := Lib.hid hi3
      have HRR := Lib.hid HR.out
      have hlen := hI.out.2.2
      have HL := Lib.hid hlen
      clear hi3 hb3 hlen
      obtain ⟨er, her⟩ : ∃ z, Ord.addErr (Ord.of (Ord.zero n) (l.take k)) ⟨q0, q1, c, q3, q4, q5⟩ = z := ⟨_, rfl⟩
      rw [her]
      have HER := Lib.hid her
      clear her
      by_cases he : er = 0
      · subst he
        have hsucc := Ord.of_succ (cs := Ord.zero n) hlt (by rw [HL.out, Nat.add_comm]; rfl) (by rw [HR.out]; exact HER.out)
        rw [HR.out] at hsucc
        have HS := Lib.hid hsucc
        clear hsucc
        go_wp2_with fail
        go_roundw
        case rel => exact ⟨k + 1, by omega, by go_num, Lib.hid ⟨by rw [HS.out.1]; exact HI3.out, HE3.out, by rw [HS.out.1, HS.out.2, Nat.add_comm]; rfl⟩⟩
        case measure => simp [intOf]; omega
      · have hstop := Ord.of_stop (cs := Ord.zero n) hlt (by rw [HL.out, Nat.add_comm]; rfl) (by rw [HR.out, HER.out]; exact he)
        have hsame := Ord.addErr_refused (cs := Ord.of (Ord.zero n) (l.take k)) (e := ⟨q0, q1, c, q3, q4, q5⟩) (by rw [HER.out]; exact he)
        have HS := Lib.hid (And.intro hstop hsame)
        clear hstop hsame
        have hi4 : IsOrd w3 w.heap.size p (Ord.of (Ord.zero n) (l.take k)) := by
          have := HI3.out
          rwa [HS.out.2] at this
        have HI4 := Lib.hid hi4
        have HEN := Lib.hid (entries15_any hi4 HL.out)
        clear hi4
        go_wp2_with fail
        refine HEN.out.mono ?_
        rintro x w4 ⟨rfl, rfl⟩
        go_wp2_with fail
        go_ret2
        exact HEND.out k w3 hk HI4.out HE3.out HL.out HS.out.1
    · have hall : l.take k = l := List.take_of_length_le (by omega)
      have HA := Lib.hid hall
      have HEN := Lib.hid (entries15_any hI.out.1 hI.out.2.2)
      clear hall
      go_wp2_with fail
      refine HEN.out.mono ?_
      rintro x w4 ⟨rfl, rfl⟩
      go_wp2_with fail
      go_ret2
      exact HEND.out k wr hk hI.out.1 hI.out.2.1 hI.out.2.2 (by rw [HA.out])
end Go.Proofs.Ytnldbdgchkknpaa
