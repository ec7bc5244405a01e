/-
  EntryTrims: entries of which none is a cut leave the last cut as it was; without any cut it is all 0: for every input the statement's function returns true, and leaves what came in as it was.
-/
import Derived.Test.YtboopfbflfimlaaEntZ
namespace Go.Proofs.Ytboopfbflfimlaa
set_option maxRecDepth 100000
set_option linter.unusedSimpArgs false
set_option linter.unusedVariables false
open Go.ChangeShapes Go.WideShapes Go.ChangeAt Go.RowKit

/-- Trims up to these places, with the numbers behind n. -/
def Ent.trims : Nat → List (Int × Int) → List Ent.E
  | _, [] => []
  | n, s :: r => ⟨(n : Int) + 1, 2, [], 0, s.1, s.2⟩ :: Ent.trims (n + 1) r
theorem Ent.trims_len : ∀ (m : List (Int × Int)) (n : Nat), (Ent.trims n m).length = m.length := by
  intro m
  induction m with
  | nil => intro n; rfl
  | cons s m ih => intro n; simp [Ent.trims, ih]
theorem Ent.trims_snoc : ∀ (m : List (Int × Int)) (n : Nat) (s : Int × Int), Ent.trims n (m ++ [s]) = Ent.trims n m ++ [⟨((n + m.length : Nat) : Int) + 1, 2, [], 0, s.1, s.2⟩] := by
  intro m
  induction m with
  | nil => intro n s; simp [Ent.trims]
  | cons a m ih =>
    intro n s
    simp only [List.cons_append, Ent.trims, ih, List.length_cons]
    rw [show n + 1 + m.length = n + (m.length + 1) from by omega]
theorem Ent.trims_kind : ∀ (m : List (Int × Int)) (n : Nat), ∀ e ∈ Ent.trims n m, e.kind ≠ 1 := by
  intro m
  induction m with
  | nil => intro n e he; cases he
  | cons a m ih =>
    intro n e he
    simp only [Ent.trims] at he
    rcases List.mem_cons.1 he with rfl | he
    · show (2 : Int) ≠ 1
      decide
    · exact ih _ e he
theorem total_zeros (n : Int) : Vec.total (zeros n) = 0 := by
  unfold zeros
  split
  · generalize n.toNat = k
    unfold Vec.total
    induction k with
    | zero => rfl
    | succ k ih => rw [List.replicate_succ]; simp_all
  · rfl
theorem build_entS (w : World) (n k : Int) (t p : Int) : (Instr.build 31 #[(0, .int .i64 n), (1, .int .i64 k), (4, .agg #[.int .i64 t, .int .i64 p])]).run Try.prog w = .ok (.agg #[.int .i64 n, .int .i64 k, .slice none 0 0, .int .i64 0, .int .i64 t, .int .i64 p]) w := by kernel_rfl
theorem OwnEnts.snocT {w0 w9 : World} {base : Nat} {v9 : Value} {l : List Ent.E} {u : Value} {e : Ent.E} {ps : List (Value × Ent.E)} (h1 : ps.map (·.2) = l) (h2 : ∀ p ∈ ps, Ints w0 p.1 p.2.cut) (hu : Ints w0 u e.cut) (h : w9.ownsRow base 31 6 v9 (l.length + 1) (entFlat ps ++ entFlat [(u, e)])) : OwnEnts w0 w9 base v9 (l ++ [e]) := by
  refine ⟨ps ++ [(u, e)], by rw [List.map_append, h1]; rfl, ?_, ?_⟩
  · intro q hq
    rcases List.mem_append.1 hq with h | h
    · exact h2 q h
    · obtain rfl := List.mem_singleton.1 h
      exact hu
  · rw [List.length_append, entFlat_append]
    exact h

/-- Rows of unlike types lie apart. -/
theorem rowsApart {w : World} {b1 b2 s1 s2 n1 n2 : Nat} {e1 e2 : TypeId} {v1 v2 : Value} {xs1 xs2 : List Value} (h1 : w.ownsRow b1 e1 s1 v1 n1 xs1) (h2 : w.ownsRow b2 e2 s2 v2 n2 xs2) (hne : e1 ≠ e2) : v1.ownBlock = none ∨ v1.ownBlock ≠ v2.ownBlock := by
  rcases h1.2 with ⟨rfl, _⟩ | ⟨g, c, cur, rfl, _, hh, _⟩
  · exact .inl rfl
  · refine .inr fun e => ?_
    exact rowBeside h2 hh hne (by simpa [Value.ownBlock] using e)

set_option maxHeartbeats 4000000 in
theorem last5_own (v : Value) (l : List Ent.E) (n : Int) (w : World) (hv : Ents w v l) :
    Calls Try.prog 23 #[v, .int .i64 n] w fun x w' => ∃ u, x = .returned u ∧ w'.ownsRow w.heap.size 3 1 u (Ent.lastOf l (zeros n)).length (i64s (Ent.lastOf l (zeros n))) ∧ Ext w w' := by
  have HV := Lib.hid hv
  obtain ⟨a, cap, rfl, hcap, hmax⟩ := hv.shape
  clear hv
  have e1 := fun (w : World) (a : Option Addr) (n c : Nat) => Lib.run_eql_slice_nil (P := Try.prog) w 22 3 a n c 0 0 Try.underlying22
  have hlo : Ent.lastOf l (zeros n) = match Ent.lastCut (l.take (Ent.chain l)) with
    | none => zeros n
    | some c => c := rfl
  have hrt := fun c h => Ent.last_right (l := l) (c := c) h
  go_enter Try.func23, Try.ntmps23
  go_wp2_with fail
  refine (follow5_any _ l _ HV.out).mono ?_
  unfold Follows5
  obtain ⟨o, ho⟩ : ∃ o, Ent.lastCut (l.take (Ent.chain l)) = o := ⟨_, rfl⟩
  rw [ho] at hlo hrt ⊢
  have HLO := Lib.hid hlo
  have HRT := Lib.hid hrt
  clear hlo hrt ho
  rintro e w1 ⟨u, rfl, hl, hE⟩
  cases o with
  | none =>
    obtain rfl : u = .slice none 0 0 := hl
    go_wp2_with fail
    refine (zero_any n _).mono ?_
    unfold GivesOwnI
    rintro e w2 ⟨u2, rfl, ho2, hE2⟩
    go_wp2_with fail
    go_ret
    exact ⟨_, rfl, by rw [HLO.out]; exact rowLower ho2 hE.size, hE.trans hE2⟩
  | some c =>
    have hc8 : c.length ≤ 8 := (Vec.right_ok (HRT.out c rfl)).2.2
    obtain ⟨hi, a3, n3, k3, rfl⟩ := hl
    have HI := Lib.hid hi
    clear hi
    go_wp2_with fail
    refine (cloneI_any _ c _ HI.out (by omega)).mono ?_
    rintro e w2 ⟨u2, rfl, ho2, hE2⟩
    go_wp2_with fail
    go_ret
    exact ⟨_, rfl, by rw [HLO.out]; exact rowLower ho2 hE.size, hE.trans hE2⟩

set_option maxHeartbeats 16000000 in
theorem entryTrims_walk (v u : Value) (l : List Ent.E) (mo : List (Int × Int)) (n : Int) (W : World) (hv : Ents W v l) (hu : Seqs W u mo) (h64 : l.length * 64 ≤ 140737488355328) :
    Calls Try.prog 10 #[v, u, .int .i64 n] W fun e W' => e = .returned (.bool true) ∧ Below W.heap.size W W' := by
  have HV := Lib.hid hv
  have HU := Lib.hid hu
  obtain ⟨a, cap, rfl, hcap, hmax⟩ := hv.shape
  obtain ⟨am, capm, rfl, hcapm, hmaxm⟩ := hu.shape
  clear hv hu
  have te := tE
  by_cases g1 : (200 : Int) < (l.length : Int)
  · skip
    go_enter Try.func10, Try.ntmps10
    go_wp2_with fail
    refine (own5_any _ l _ HV.out h64).mono ?_
    rintro e w1 ⟨u1, rfl, ho1, hE1⟩
    have HO1 := Lib.hid ho1
    obtain ⟨a1, c1, rfl⟩ := ho1.isSlice
    clear ho1
    go_wp2_with fail
    refine (entAlive_any _).mono ?_
    rintro e w5 ⟨rfl, hE5⟩
    go_wp2_with fail
    go_ret
    exact ⟨rfl, hE1.trans hE5⟩
  by_cases g2 : (200 : Int) < (mo.length : Int)
  · skip
    go_enter Try.func10, Try.ntmps10
    go_wp2_with fail
    refine (own5_any _ l _ HV.out h64).mono ?_
    rintro e w1 ⟨u1, rfl, ho1, hE1⟩
    have HO1 := Lib.hid ho1
    obtain ⟨a1, c1, rfl⟩ := ho1.isSlice
    clear ho1
    go_wp2_with fail
    refine (entAlive_any _).mono ?_
    rintro e w5 ⟨rfl, hE5⟩
    go_wp2_with fail
    go_ret
    exact ⟨rfl, hE1.trans hE5⟩
  have hch := fun v w h => chain5_any v l w h
  by_cases g3 : Ent.chain l = l.length
  rotate_left
  · obtain ⟨M, hM⟩ : ∃ M, Ent.chain l = M := ⟨_, rfl⟩
    rw [hM] at g3 hch
    have hne : ((M : Int) != (l.length : Int)) = true := by simp; omega
    have HCH := Lib.hid hch
    clear hM hch g3
    go_enter Try.func10, Try.ntmps10
    go_wp2_with fail
    refine (own5_any _ l _ HV.out h64).mono ?_
    rintro e w1 ⟨u1, rfl, ho1, hE1⟩
    have HO1 := Lib.hid ho1
    obtain ⟨a1, c1, rfl⟩ := ho1.isSlice
    clear ho1
    go_wp2_with fail
    refine (HCH.out _ _ (HO1.out.ents hE1)).mono ?_
    rintro e w2 ⟨rfl, hE2⟩
    have e2 := hE1.trans hE2
    go_wp2_with fail
    refine (entAlive_any _).mono ?_
    rintro e w5 ⟨rfl, hE5⟩
    go_wp2_with fail
    go_ret
    exact ⟨rfl, e2.trans hE5⟩
  rw [g3] at hch
  have HCH := Lib.hid hch
  have HG3 := Lib.hid g3
  clear hch g3
  by_cases g4 : n < 1
  · skip
    go_enter Try.func10, Try.ntmps10
    go_wp2_with fail
    refine (own5_any _ l _ HV.out h64).mono ?_
    rintro e w1 ⟨u1, rfl, ho1, hE1⟩
    have HO1 := Lib.hid ho1
    obtain ⟨a1, c1, rfl⟩ := ho1.isSlice
    clear ho1
    go_wp2_with fail
    refine (HCH.out _ _ (HO1.out.ents hE1)).mono ?_
    rintro e w2 ⟨rfl, hE2⟩
    have e2 := hE1.trans hE2
    go_wp2_with fail
    refine (entAlive_any _).mono ?_
    rintro e w5 ⟨rfl, hE5⟩
    go_wp2_with fail
    go_ret
    exact ⟨rfl, e2.trans hE5⟩
  by_cases g5 : (8 : Int) < n
  · skip
    go_enter Try.func10, Try.ntmps10
    go_wp2_with fail
    refine (own5_any _ l _ HV.out h64).mono ?_
    rintro e w1 ⟨u1, rfl, ho1, hE1⟩
    have HO1 := Lib.hid ho1
    obtain ⟨a1, c1, rfl⟩ := ho1.isSlice
    clear ho1
    go_wp2_with fail
    refine (HCH.out _ _ (HO1.out.ents hE1)).mono ?_
    rintro e w2 ⟨rfl, hE2⟩
    have e2 := hE1.trans hE2
    go_wp2_with fail
    refine (entAlive_any _).mono ?_
    rintro e w5 ⟨rfl, hE5⟩
    go_wp2_with fail
    go_ret
    exact ⟨rfl, e2.trans hE5⟩
  go_enter Try.func10, Try.ntmps10
  go_wp2_with fail
  refine (own5_any _ l _ HV.out h64).mono ?_
  rintro e w1 ⟨u1, rfl, ho1, hE1⟩
  have HO1 := Lib.hid ho1
  obtain ⟨a1, c1, rfl⟩ := ho1.isSlice
  clear ho1
  go_wp2_with fail
  refine (HCH.out _ _ (HO1.out.ents hE1)).mono ?_
  rintro e w2 ⟨rfl, hE2⟩
  have e2 := hE1.trans hE2
  go_wp2_with fail
  obtain ⟨Z, hZ⟩ : ∃ Z, Ent.lastOf l (zeros n) = Z := ⟨_, rfl⟩
  have hla := last5_own (.slice a1 l.length c1) l n w2 ((HO1.out.ext hE2).ents e2)
  rw [hZ] at hla
  refine hla.mono ?_
  clear hla
  have HZ := Lib.hid hZ
  clear hZ
  rintro e w3 ⟨u3, rfl, ho3, hE3⟩
  obtain ⟨a3, n3, c3, rfl⟩ := ownSlice ho3
  have HW3 := Lib.hid ho3
  have e3 := e2.trans hE3
  have O3 := Lib.hid ((HO1.out.ext hE2).ext hE3)
  clear ho3
  have hbs := build_entS
  go_wp2_with fail
  go_loopw [7, 10, 42] (fun o _ i wr => ∃ k : Nat, k ≤ mo.length ∧ i = .int .i64 k ∧ Hid (OwnEnts W wr W.heap.size o (l ++ Ent.trims l.length (mo.take k))) ∧ Hid (wr.ownsRow w2.heap.size 3 1 (.slice a3 n3 c3) Z.length (i64s Z)) ∧ Ext W wr) (fun _ _ i _ => mo.length - (intOf i).toNat)
  case atStart => exact ⟨0, by omega, rfl, by unfold Hid; simpa [Ent.trims] using O3.out, HW3, e3⟩
  case round =>
    obtain ⟨k, hk, rfl, ho, hw, er⟩ := hrel
    by_cases hlt : k < mo.length
    · obtain ⟨a', cap', e', _, _, _, hc⟩ := HU.out.below er
      obtain ⟨b, off, rfl, p0, p1⟩ := hc k hlt
      injection e' with e1' e2' e3'
      subst e1'
      clear hc e2' e3'
      have hnx : l ++ Ent.trims l.length (mo.take (k + 1)) = (l ++ Ent.trims l.length (mo.take k)) ++ [⟨((l.length + (mo.take k).length : Nat) : Int) + 1, 2, [], 0, mo[k].1, mo[k].2⟩] := by rw [take_succ_getD mo k hlt, Ent.trims_snoc, List.append_assoc]
      have hlk : (mo.take k).length = k := by rw [List.length_take]; omega
      have hll : (l ++ Ent.trims l.length (mo.take k)).length = l.length + k := by rw [List.length_append, Ent.trims_len, hlk]
      rw [hlk] at hnx
      generalize mo[k] = S at *
      obtain ⟨tt, pp⟩ := S
      simp only at *
      obtain ⟨L, hL⟩ : ∃ L, l ++ Ent.trims l.length (mo.take k) = L := ⟨_, rfl⟩
      rw [hL] at ho hnx hll
      rw [← hll] at hnx
      have HNX := Lib.hid hnx
      have HLL := Lib.hid hll
      obtain ⟨ax, cx, rfl⟩ := ho.out.isSlice
      obtain ⟨ps, hps, hpi, hown⟩ := ho.out
      have hEa : Ext wr (wr.alloc (.cells #[.int .i64 tt, .int .i64 pp] 24)) := Ext.alloc _ _
      have hEb : Ext (wr.alloc (.cells #[.int .i64 tt, .int .i64 pp] 24)) ((wr.alloc (.cells #[.int .i64 tt, .int .i64 pp] 24)).alloc (.cells #[.int .i64 ((L.length : Int) + 1), .int .i64 2, .slice none 0 0, .int .i64 0, .int .i64 tt, .int .i64 pp] 31)) := Ext.alloc _ _
      have O2 := Lib.hid (rowExt (rowExt hown hEa) hEb)
      have W2 := Lib.hid (rowExt (rowExt hw.out hEa) hEb)
      have HPS := Lib.hid hps
      have HPI := Lib.hid hpi
      have HSL := Lib.hid (show SlN 6 ((wr.alloc (.cells #[.int .i64 tt, .int .i64 pp] 24)).alloc (.cells #[.int .i64 ((L.length : Int) + 1), .int .i64 2, .slice none 0 0, .int .i64 0, .int .i64 tt, .int .i64 pp] 31)) (.slice (some ⟨wr.heap.size + 1, 0, none⟩) 1 1) 1 (entFlat [(.slice none 0 0, ⟨(L.length : Int) + 1, 2, [], 0, tt, pp⟩)]) by have := SlN.one6 (T := 31) (wr.alloc (.cells #[.int .i64 tt, .int .i64 pp] 24)) (.slice none 0 0) ⟨(L.length : Int) + 1, 2, [], 0, tt, pp⟩; rwa [World.size_alloc] at this)
      have hone := entFlat_one (w := W) (ps := [(.slice none 0 0, ⟨(L.length : Int) + 1, 2, [], 0, tt, pp⟩)]) (by intro q hq; obtain rfl := List.mem_singleton.1 hq; exact ints_none _)
      have hL400 : L.length ≤ 400 := by omega
      have hk1 : L.length + 1 ≤ maxLen := by unfold maxLen; omega
      have hk2 : (L.length + 1) * 64 ≤ 140737488355328 := by omega
      have eb := Lib.hid ((er.trans hEa).trans hEb)
      clear hps hpi hown hnx hll hL hlk
      go_wp2_with (at_builtin; refine wpList_appN rfl (.tmp 46) (.tmp 52) te rfl rfl rfl O2.out HSL.out hone hk1 hk2 eb.out.size ?_; intro v9 w9 hown9 hg9)
      have hg9 : ((wr.alloc (.cells #[.int .i64 tt, .int .i64 pp] 24)).alloc (.cells #[.int .i64 ((L.length : Int) + 1), .int .i64 2, .slice none 0 0, .int .i64 0, .int .i64 tt, .int .i64 pp] 31)).grownBy w9 (Value.slice ax L.length cx).ownBlock := hg9
      have hE9 : Ext W w9 := Below.grown eb.out hg9 eb.out.size (fun j hj => (O2.out.lt j hj).1)
      have W9 := Lib.hid (W2.out.kept hg9 (rowsApart W2.out O2.out (by decide)))
      have HS := Lib.hid (OwnEnts.snocT (e := ⟨(L.length : Int) + 1, 2, [], 0, tt, pp⟩) HPS.out HPI.out (ints_none _) hown9)
      obtain ⟨a9, n9, c9, rfl⟩ := ownSlice hown9
      clear hown9 hg9
      go_wp2_with fail
      go_roundw
      case rel =>
        refine ⟨k + 1, by omega, by go_num, ?_, W9, hE9⟩
        unfold Hid
        rw [HNX.out]
        exact HS.out
      case measure => simp [intOf]; omega
    · have hall : mo.take k = mo := List.take_of_length_le (by omega)
      rw [hall] at ho
      have hkd := Ent.trims_kind mo l.length
      have hlt2 := fun h => Ent.lastOf_trims (l := l) (ts := Ent.trims l.length mo) HG3.out h hkd (zeros n)
      rw [HZ.out] at hlt2
      have hLl : (l ++ Ent.trims l.length mo).length = l.length + mo.length := by rw [List.length_append, Ent.trims_len]
      obtain ⟨L, hL⟩ : ∃ L, l ++ Ent.trims l.length mo = L := ⟨_, rfl⟩
      rw [hL] at ho hlt2 hLl
      unfold Ent.isChain at hlt2
      have hch := fun v w h => chain5_any v L w h
      obtain ⟨K, hK⟩ : ∃ K, Ent.chain L = K := ⟨_, rfl⟩
      rw [hK] at hch hlt2
      obtain ⟨ax, cx, rfl⟩ := ho.out.isSlice
      have HCH2 := Lib.hid hch
      have HLT := Lib.hid hlt2
      have HX := Lib.hid (ho.out.ents er)
      clear hall hkd hlt2 hch hK hL hLl
      by_cases hkl : K = L.length
      rotate_left
      · have hne : ((K : Int) != (L.length : Int)) = true := by simp; omega
        clear hkl
        go_wp2_with fail
        refine (HCH2.out _ _ HX.out).mono ?_
        rintro e w6 ⟨rfl, hE6⟩
        go_wp2_with fail
        refine (entAlive_any _).mono ?_
        rintro e w5 ⟨rfl, hE5⟩
        go_wp2_with fail
        go_ret
        exact ⟨rfl, (er.trans hE6).trans hE5⟩
      have hla := fun w h => last5_any (.slice ax L.length cx) L n w h
      rw [HLT.out hkl] at hla
      have HLA := Lib.hid hla
      have HCH3 := Lib.hid (show ∀ v w, Ents w v L → Calls Try.prog 19 #[v] w fun x w' => x = .returned (.int .i64 (L.length : Int)) ∧ Ext w w' from by rw [← hkl]; exact HCH2.out)
      clear hla hkl
      have HWI := Lib.hid (show Ints wr (.slice a3 n3 c3) Z from Sl.ofOwn hw.out)
      go_wp2_with fail
      refine (HCH3.out _ _ HX.out).mono ?_
      rintro e w6 ⟨rfl, hE6⟩
      go_wp2_with fail
      refine (entAlive_any _).mono ?_
      rintro e w7 ⟨rfl, hE7⟩
      have e67 := hE6.trans hE7
      go_wp2_with fail
      refine (HLA.out _ (HX.out.below e67)).mono ?_
      rintro e w8 ⟨u8, rfl, hi8, hE8⟩
      obtain ⟨a8, n8, c8, rfl⟩ := Ints.isSlice hi8
      have HI8 := Lib.hid hi8
      clear hi8
      go_wp2_with fail
      have hsame : (Z == Z) = true := by simp
      refine (equal3_any _ _ Z Z _ HI8.out (HWI.out.below (e67.trans hE8))).mono ?_
      rw [hsame]
      rintro e w9 ⟨rfl, hE9⟩
      have e9 := (er.trans e67).trans (hE8.trans hE9)
      by_cases hl0 : (0 : Int) < (l.length : Int)
      · have hl0n : ¬ l = [] := by rintro rfl; simp at hl0
        go_wp2_with fail
        go_ret
        exact ⟨rfl, e9⟩
      · have hnil : l = [] := by cases l with
        | nil => rfl
        | cons x l => simp at hl0
        have hz0 : Vec.total Z = 0 := by rw [← HZ.out, hnil]; exact total_zeros n
        have HZ0 := Lib.hid hz0
        clear hz0 hl0
        go_wp2_with fail
        refine (total_any _ Z _ (HWI.out.below ((e67.trans hE8).trans hE9))).mono ?_
        rw [HZ0.out]
        rintro e w10 ⟨rfl, rfl⟩
        go_wp2_with fail
        go_ret
        exact ⟨rfl, e9⟩

namespace entryTrims
theorem own : ownKnob Try.prog.godebug = none := by kernel_rfl
theorem laidOut : laidOutB Try.prog = true := by kernel_rfl
set_option linter.unusedVariables false in
set_option maxRecDepth 100000 in
theorem lifted (os : Os) (started : os.Started) (H : Type) (enc : TypeId × Value → H) :
    ReturnsInHanded {} Try.checked os 10 .any (Rows.entryTrimsSpec.pre6 enc Try.prog Try.f10 Rows.entryTrimsRow.domain false) (Rows.entryTrimsSpec.post enc Try.prog Try.f10 false true false false) := by
  refine returnsInHanded_of_change_sized (C := Try.checked) own started (by kernel_rfl) Try.func10
    (ChangeSpec.witness6 (enc := enc) (C := Try.checked) false ⟨#[], #[.slice none 0 0, .slice none 0 0, .int .i64 0], []⟩ 8 (by kernel_rfl) (by kernel_rfl) (by kernel_rfl) (by kernel_rfl)) ?_
  intro W base args ds gs before hval0 hW hcnd hsz _
  have hval : ∀ (j : Nat) t v, Try.f10.params[j]? = some t → args[j]? = some v → Value.okWide Try.prog W .any base t v := hval0
  have hW' := hW
  obtain ⟨p, q, hA0, hV, rfl, hfz, hnd⟩ := hW'
  have hA : DataW.TrodAll enc Try.prog W 0 (fun _ => true) true Try.f10.params.toList args.toList ds p := hA0
  rw [Try.params10] at hA hval
  obtain ⟨v0, vs0, d0, ds0, p0, q0, hargs, rfl, rfl, h0, r0⟩ := trodAll_cons hA
  obtain ⟨v1, vs1, d1, ds1, p1, q1, rfl, rfl, rfl, h1, r1⟩ := trodAll_cons r0
  obtain ⟨v2, vs2, d2, ds2, p2, q2, rfl, rfl, rfl, h2, r2⟩ := trodAll_cons r1
  obtain ⟨rfl, rfl, rfl⟩ := trodAll_nil r2
  obtain rfl : args = #[v0, v1, v2] := by cases args; simp_all
  obtain ⟨rfl, rfl⟩ := trodVars_none hV
  have k0 := h0
  have lt0 : ∀ x ∈ p0, x.block < W.heap.size := by obtain ⟨m, hm⟩ := k0; exact DataW.trod_lt m _ _ _ hm
  obtain ⟨a0, len0, cap0, rfl⟩ := okWide_slice Try.underlying43 (hval 0 43 v0 rfl rfl)
  obtain ⟨l0, w0⟩ : ∃ l, Ents W (.slice a0 len0 cap0) l := by
    obtain ⟨fuel, hf⟩ := h0
    obtain ⟨v, l, hcs, hb⟩ := ents_of_raw hf
    simp [Value.cells] at hcs
    subst hcs
    exact ⟨l, hb⟩
  have sz0 : len0 * 64 ≤ 140737488351232 := by obtain ⟨fuel, hf⟩ := h0; exact reach_of_raw (P := Try.prog) (x := (d0, p0)) (j := 0) hsz (by rw [Try.params10]; rfl) rfl Try.underlying43 (by kernel_rfl) hf
  have k1 := h1
  have lt1 : ∀ x ∈ p1, x.block < W.heap.size := by obtain ⟨m, hm⟩ := k1; exact DataW.trod_lt m _ _ _ hm
  obtain ⟨a1, len1, cap1, rfl⟩ := okWide_slice Try.underlying55 (hval 1 55 v1 rfl rfl)
  obtain ⟨l1, w1⟩ : ∃ l, Seqs W (.slice a1 len1 cap1) l := by
    obtain ⟨fuel, hf⟩ := h1
    obtain ⟨v, l, hcs, hb⟩ := seqs_of_raw hf
    simp [Value.cells] at hcs
    subst hcs
    exact ⟨l, hb⟩
  have sz1 : len1 * 16 ≤ 140737488351232 := by obtain ⟨fuel, hf⟩ := h1; exact reach_of_raw (P := Try.prog) (x := (d1, p1)) (j := 1) hsz (by rw [Try.params10]; rfl) rfl Try.underlying55 (by kernel_rfl) hf
  have k2 := h2
  have lt2 : ∀ x ∈ p2, x.block < W.heap.size := by obtain ⟨m, hm⟩ := k2; exact DataW.trod_lt m _ _ _ hm
  obtain ⟨a2, rfl, _, _, w2⟩ := open_int Try.underlying3 (hval 2 3 v2 rfl rfl) h2
  clear hA0 hval0
  refine (entryTrims_walk _ _ l0 l1 a2 W w0 w1 (by obtain ⟨aa, cc, h, _⟩ := w0.shape; injection h with _ h _; omega)).mono fun e W' ⟨he, bel⟩ => ?_
  subst he
  exact ⟨_, rfl, _, _, _, [], _, [], hW, trodAll_mk1 (shut_bool Try.underlying4 _), (trodAll_cons_mk (Below.trod laidOut (by kernel_rfl) (of_decide_eq_true (by kernel_rfl)) k0 bel lt0) (trodAll_cons_mk (Below.trod laidOut (by kernel_rfl) (of_decide_eq_true (by kernel_rfl)) k1 bel lt1) (trodAll_cons_mk (Below.trod laidOut (by kernel_rfl) (of_decide_eq_true (by kernel_rfl)) k2 bel lt2) trodAll_mk0))), rfl, bel.frame _, fun h => by cases h⟩
theorem over : Rows.entryTrimsRow.holds Try.pinned (OpenSpec.ofChange Rows.entryTrimsSpec) :=
  OpenClaim.holds_of_wide 10 Try.f10 rfl rfl rfl rfl rfl rfl rfl ⟨rfl, rfl, rfl, rfl, rfl⟩ rfl rfl rfl rfl rfl (by kernel_rfl) Try.func10 (by kernel_rfl)
    (of_decide_eq_true (by kernel_rfl)) (by unfold Func.isWrapper; first | (rw [if_pos (by decide +kernel)]; kernel_rfl) | (rw [if_neg (by decide +kernel)]; exact ⟨rfl, rfl⟩))
    (fun os started H enc _ => lifted os started H enc)
theorem proved : Rows.EntryTrimsSaid := over
end entryTrims
end Go.Proofs.Ytboopfbflfimlaa
