/-
  Layer 5, the program: rows of entries, and how many of them follow one another.
-/
import Derived.Test.YtboopfbflfimlaaEntH
import Derived.Test.YtboopfbflfimlaaVecB
namespace Go.Proofs.Ytboopfbflfimlaa
set_option linter.unusedSimpArgs false
set_option linter.unusedVariables false
set_option maxRecDepth 100000
open Go.RowKit

/-- An entry stands here. -/
def EntHere (w : World) (b o : Nat) (e : Ent.E) : Prop :=
  ∃ t, w.cell? ⟨b, o, none⟩ = some (.int .i64 e.number) ∧ w.cell? ⟨b, o + 1, none⟩ = some (.int .i64 e.kind) ∧ w.cell? ⟨b, o + 2, none⟩ = some t ∧ w.cell? ⟨b, o + 3, none⟩ = some (.int .i64 e.tag) ∧ w.cell? ⟨b, o + 4, none⟩ = some (.int .i64 e.term) ∧ w.cell? ⟨b, o + 5, none⟩ = some (.int .i64 e.pos) ∧ Ints w t e.cut
theorem EntHere.below {w w' : World} {b o : Nat} {e : Ent.E} (h : EntHere w b o e) (hb : Below w.heap.size w w') : EntHere w' b o e := by
  obtain ⟨t, h1, h2, h3, h4, h5, h6, h7⟩ := h
  have key : ∀ i, w'.cell? ⟨b, i, none⟩ = w.cell? ⟨b, i, none⟩ := fun i => World.cell?_of_block (w := w) (hb.block b (World.block_lt_of_cell? w _ h1))
  exact ⟨t, (key _).trans h1, (key _).trans h2, (key _).trans h3, (key _).trans h4, (key _).trans h5, (key _).trans h6, h7.below hb⟩
/-- A slice of entries reads as these. -/
def Ents (w : World) (v : Value) (l : List Ent.E) : Prop :=
  ∃ (a : Option Addr) (cap : Nat), v = .slice a l.length cap ∧ l.length ≤ cap ∧ cap ≤ maxLen ∧ (a = none → cap = 0) ∧ ∀ i (h : i < l.length), ∃ b off, a = some ⟨b, off, none⟩ ∧ EntHere w b (off + i * 6) l[i]
theorem Ents.below {w w' : World} {v : Value} {l : List Ent.E} (h : Ents w v l) (hb : Below w.heap.size w w') : Ents w' v l := by
  obtain ⟨a, cap, rfl, h1, h2, h4, h3⟩ := h
  refine ⟨a, cap, rfl, h1, h2, h4, fun i hi => ?_⟩
  obtain ⟨b, off, e, hc⟩ := h3 i hi
  exact ⟨b, off, e, hc.below hb⟩
theorem Ents.shape {w : World} {v : Value} {l : List Ent.E} (h : Ents w v l) : ∃ a c, v = .slice a l.length c ∧ l.length ≤ c ∧ c ≤ 9223372036854775807 := by
  obtain ⟨a, cap, rfl, h1, h2, _⟩ := h
  unfold maxLen at h2
  exact ⟨a, cap, rfl, h1, h2⟩
theorem Ents.nil (w : World) : Ents w (.slice none 0 0) [] := ⟨none, 0, rfl, Nat.le_refl _, by simp [maxLen], fun _ => rfl, fun i hi => absurd hi (by simp)⟩
/-- The first k of them. -/
theorem Ents.take {w : World} {a : Option Addr} {n cap : Nat} {l : List Ent.E} (h : Ents w (.slice a n cap) l) (k : Nat) (hk : k ≤ l.length) : Ents w (.slice a k cap) (l.take k) := by
  obtain ⟨a', cap', e, h1, h2, h4, h3⟩ := h
  injection e with e1 e2 e3
  subst e1 e3
  have hl : (l.take k).length = k := by rw [List.length_take]; omega
  refine ⟨_, _, by rw [hl], by omega, h2, h4, fun i hi => ?_⟩
  obtain ⟨b, off, e, hc⟩ := h3 i (by omega)
  exact ⟨b, off, e, by simpa using hc⟩

/-- The last cut, as the program holds it: none is nil. -/
def LastIs (w : World) (u : Value) : Option (List Int) → Prop
  | none => u = .slice none 0 0
  | some c => Ints w u c ∧ ∃ a n k, u = .slice (some a) n k
theorem LastIs.ext {w w' : World} {u : Value} {o : Option (List Int)} (h : LastIs w u o) (hE : Ext w w') : LastIs w' u o := by
  cases o with
  | none => exact h
  | some c => exact ⟨h.1.below hE, h.2⟩
theorem LastIs.isSlice {w : World} {u : Value} {o : Option (List Int)} (h : LastIs w u o) : ∃ a n k, u = .slice a n k := by
  cases o with
  | none => exact ⟨_, _, _, h⟩
  | some c =>
    obtain ⟨_, a, n, k, e⟩ := h
    exact ⟨_, _, _, e⟩
theorem LastIs.of_ints {w : World} {u : Value} {c : List Int} (h : Ints w u c) (hc : c ≠ []) : LastIs w u (some c) := by
  refine ⟨h, ?_⟩
  obtain ⟨a, cap, rfl, _, _, _, hx⟩ := h.open
  obtain ⟨b, off, rfl, _⟩ := hx 0 (List.length_pos_iff.2 hc)
  exact ⟨_, _, _, rfl⟩
theorem Ent.cut_next (l : List Ent.E) (k : Nat) (hk : k < l.length) : Ent.lastCut (l.take (k + 1)) = if l[k].kind = 1 then some l[k].cut else Ent.lastCut (l.take k) := by
  rw [take_succ_getD l k hk, Ent.lastCut_snoc]
theorem Ent.right_cut {e : Ent.E} (h : Ent.right e = true) (hk : e.kind = 1) : Vec.right e.cut = true ∧ e.cut ≠ [] := by
  rcases (Ent.right_ok h).2 with ⟨_, hv, _⟩ | ⟨h, _⟩
  · refine ⟨hv, fun e0 => ?_⟩
    have := (Vec.right_ok hv).2.1
    rw [e0] at this
    simp at this
  · omega
/-- What follow leaves. -/
def Follows5 (w : World) (l : List Ent.E) (x : Ending) (w' : World) : Prop := ∃ u, x = .returned (.tuple #[.int .i64 (Ent.chain l : Int), u]) ∧ LastIs w' u (Ent.lastCut (l.take (Ent.chain l))) ∧ Ext w w'

set_option maxHeartbeats 8000000 in
theorem follow5_any (v : Value) (l : List Ent.E) (w : World) (hv : Ents w v l) :
    Calls Try.prog 50 #[v] w (Follows5 w l) := by
  have HV := Lib.hid hv
  have e1 := fun (w : World) (a : Option Addr) (n c : Nat) => Lib.run_eql_slice_nil (P := Try.prog) w 22 3 a n c 0 0 Try.underlying22
  obtain ⟨a, cap, rfl, hcap, hmax, _, _⟩ := hv
  unfold maxLen at hmax
  unfold Follows5
  go_enter Try.func50, Try.ntmps50
  go_wp2
  go_step3
  go_wp2
  go_step3
  go_wp2
  go_loopw [2, 3, 5, 8] (fun n u _ i wr => ∃ k : Nat, k ≤ l.length ∧ i = .int .i64 k ∧ n = .int .i64 k ∧ Hid (Ent.chain (l.take k) = k) ∧ Hid (LastIs wr u (Ent.lastCut (l.take k))) ∧ Ext w wr) (fun _ _ _ i _ => l.length - (intOf i).toNat)
  case atStart => exact ⟨0, by omega, rfl, rfl, rfl, rfl, Ext.refl _⟩
  case round =>
    obtain ⟨k, hk, rfl, rfl, hch, hlast, hE⟩ := hrel
    by_cases hlt : k < l.length
    · obtain ⟨a', cap', e', _, _, _, hc⟩ := HV.out.below hE
      obtain ⟨b, off, rfl, t, p0, p1, p2, p3, p4, p5, ht⟩ := hc k hlt
      injection e' with e1' e2' e3'
      subst e1'
      have hstop := fun h => Ent.chain_stop hlt hch.out h
      have hnext := Ent.chain_next hlt hch.out
      have hcut := Ent.cut_next l k hlt
      have hfol := Ent.follows_iff (l.take k) l[k]
      have hrc := fun (h1 : Ent.right l[k] = true) (h2 : l[k].kind = 1) => Ent.right_cut h1 h2
      have hlk : (l.take k).length = k := by rw [List.length_take]; omega
      rw [hlk] at hfol
      obtain ⟨a2, cap2, rfl, hcap2, hmax2, _, _⟩ := ht.open
      unfold maxLen at hmax2
      have HI := Lib.hid (show IsEnt wr (.agg #[.int .i64 l[k].number, .int .i64 l[k].kind, .slice a2 l[k].cut.length cap2, .int .i64 l[k].tag, .int .i64 l[k].term, .int .i64 l[k].pos]) l[k] from ⟨_, rfl, ht⟩)
      have HT := Lib.hid ht
      generalize l[k] = R at *
      obtain ⟨n, kd, c, tg, m, p⟩ := R
      clear hc e2' e3' ht
      simp only at *
      have hEa : Ext wr (wr.alloc (.cells #[.int .i64 n, .int .i64 kd, .slice a2 c.length cap2, .int .i64 tg, .int .i64 m, .int .i64 p] 31)) := Ext.alloc _ _
      have HX := Lib.hid (EntAt.new 31 wr (.slice a2 c.length cap2) ⟨n, kd, c, tg, m, p⟩)
      have HSTOP := Lib.hid hstop
      have HNEXT := Lib.hid hnext
      have HCUT := Lib.hid hcut
      have HFOL := Lib.hid hfol
      have HRC := Lib.hid hrc
      have hk63 : (k : Int) + 1 ≤ 9223372036854775807 := by omega
      clear hstop hnext hcut hfol hrc hlk
      obtain ⟨au, nu, ku, rfl⟩ := LastIs.isSlice hlast.out
      have hn0 : (Ent.follows (l.take k) ⟨n, kd, c, tg, m, p⟩ = true → False) → Ent.chain l = k := fun h => HSTOP.out (by
        cases hf : Ent.follows (l.take k) ⟨n, kd, c, tg, m, p⟩ with
        | false => rfl
        | true => exact (h hf).elim)
      have HN0 := Lib.hid hn0
      clear hn0
      by_cases hn : n = (k : Int) + 1
      · subst hn
        cases hr : Ent.right ⟨(k : Int) + 1, kd, c, tg, m, p⟩ with
        | false =>
          have HR := Lib.hid hr
          have HC := Lib.hid (HN0.out fun h => by have := (HFOL.out.1 h).1; rw [hr] at this; cases this)
          clear hr
          go_wp2_with fail
          refine (right5_any _ ⟨(k : Int) + 1, kd, c, tg, m, p⟩ _ (HI.out.below hEa)).mono ?_
          rw [HR.out]
          rintro e w1 ⟨rfl, hE1⟩
          go_wp2_with fail
          (try rw [Exit.noGoto_ret])
          go_ret2
          exact ⟨_, by rw [HC.out]; rfl, by rw [HC.out]; exact hlast.out.ext (hEa.trans hE1), hE.trans (hEa.trans hE1)⟩
        | true =>
          have HR := Lib.hid hr
          by_cases k1 : kd = 1
          · subst k1
            obtain ⟨hvr, hcne⟩ := HRC.out hr rfl
            obtain ⟨o, ho⟩ : ∃ o, Ent.lastCut (l.take k) = o := ⟨_, rfl⟩
            have hcut2 := HCUT.out
            rw [if_pos rfl] at hcut2
            have HC2 := Lib.hid hcut2
            rw [ho] at hlast
            cases o with
            | none =>
              have hf : Ent.follows (l.take k) ⟨(k : Int) + 1, 1, c, tg, m, p⟩ = true := HFOL.out.2 ⟨hr, rfl, fun _ => by rw [ho]; rfl⟩
              have hnx := HNEXT.out
              rw [hf, if_pos rfl] at hnx
              have HNX := Lib.hid hnx
              obtain ⟨rfl, rfl, rfl⟩ : au = none ∧ nu = 0 ∧ ku = 0 := by have := hlast.out; unfold LastIs at this; simpa using this
              have HCN := Lib.hid hcne
              clear hr hf hnx ho hcut2 hvr hcne
              go_wp2_with fail
              refine (right5_any _ ⟨(k : Int) + 1, 1, c, tg, m, p⟩ _ (HI.out.below hEa)).mono ?_
              rw [HR.out]
              rintro e w1 ⟨rfl, hE1⟩
              have x1 := Lib.hid (HX.out.ext hE1)
              obtain ⟨c0, c1, c2, c3, c4, c5⟩ := x1.out.cells
              go_wp2_with fail
              go_roundw
              case rel => exact ⟨k + 1, by omega, by go_num, by go_num, HNX.out, by rw [Hid, HC2.out]; exact LastIs.of_ints (HT.out.below (hEa.trans hE1)) HCN.out, hE.trans (hEa.trans hE1)⟩
              case measure => simp [intOf]; omega
            | some u =>
              have hu := hlast.out.1
              obtain ⟨a3, n3, k3, e3⟩ := hlast.out.2
              injection e3 with e4 e5 e6
              subst e4 e5 e6
              have HU := Lib.hid hu
              cases hcv : Vec.covers c u with
              | false =>
                have HC := Lib.hid (HN0.out fun h => by
                  have := (HFOL.out.1 h).2.2 rfl
                  rw [ho] at this
                  have h2 : Vec.covers c u = true := this
                  rw [hcv] at h2
                  cases h2)
                have HCV := Lib.hid hcv
                have HO := Lib.hid ho
                clear hr ho hcut2 hvr hcne hcv hu
                go_wp2_with fail
                refine (right5_any _ ⟨(k : Int) + 1, 1, c, tg, m, p⟩ _ (HI.out.below hEa)).mono ?_
                rw [HR.out]
                rintro e w1 ⟨rfl, hE1⟩
                have x1 := Lib.hid (HX.out.ext hE1)
                obtain ⟨c0, c1, c2, c3, c4, c5⟩ := x1.out.cells
                go_wp2_with fail
                refine (covers_any _ _ c u _ (HT.out.below (hEa.trans hE1)) (HU.out.below (hEa.trans hE1))).mono ?_
                rw [HCV.out]
                rintro e w2 ⟨rfl, rfl⟩
                go_wp2_with fail
                (try rw [Exit.noGoto_ret])
                go_ret2
                exact ⟨_, by rw [HC.out]; rfl, by rw [HC.out, HO.out]; exact hlast.out.ext (hEa.trans hE1), hE.trans (hEa.trans hE1)⟩
              | true =>
                have hf : Ent.follows (l.take k) ⟨(k : Int) + 1, 1, c, tg, m, p⟩ = true := HFOL.out.2 ⟨hr, rfl, fun _ => by rw [ho]; exact hcv⟩
                have hnx := HNEXT.out
                rw [hf, if_pos rfl] at hnx
                have HNX := Lib.hid hnx
                have HCV := Lib.hid hcv
                have HCN := Lib.hid hcne
                clear hr hf hnx ho hcut2 hvr hcne hcv hu
                go_wp2_with fail
                refine (right5_any _ ⟨(k : Int) + 1, 1, c, tg, m, p⟩ _ (HI.out.below hEa)).mono ?_
                rw [HR.out]
                rintro e w1 ⟨rfl, hE1⟩
                have x1 := Lib.hid (HX.out.ext hE1)
                obtain ⟨c0, c1, c2, c3, c4, c5⟩ := x1.out.cells
                go_wp2_with fail
                refine (covers_any _ _ c u _ (HT.out.below (hEa.trans hE1)) (HU.out.below (hEa.trans hE1))).mono ?_
                rw [HCV.out]
                rintro e w2 ⟨rfl, rfl⟩
                go_wp2_with fail
                go_roundw
                case rel => exact ⟨k + 1, by omega, by go_num, by go_num, HNX.out, by rw [Hid, HC2.out]; exact LastIs.of_ints (HT.out.below (hEa.trans hE1)) HCN.out, hE.trans (hEa.trans hE1)⟩
                case measure => simp [intOf]; omega
          · have hf : Ent.follows (l.take k) ⟨(k : Int) + 1, kd, c, tg, m, p⟩ = true := HFOL.out.2 ⟨hr, rfl, fun h => absurd h k1⟩
            have hnx := HNEXT.out
            rw [hf, if_pos rfl] at hnx
            have hcut2 := HCUT.out
            rw [if_neg k1] at hcut2
            have HNX := Lib.hid hnx
            have HC2 := Lib.hid hcut2
            clear hr hf hnx hcut2
            have hkb : (kd == 1) = false := beq_eq_false_iff_ne.2 k1
            go_wp2_with fail
            refine (right5_any _ ⟨(k : Int) + 1, kd, c, tg, m, p⟩ _ (HI.out.below hEa)).mono ?_
            rw [HR.out]
            rintro e w1 ⟨rfl, hE1⟩
            have x1 := Lib.hid (HX.out.ext hE1)
            obtain ⟨c0, c1, c2, c3, c4, c5⟩ := x1.out.cells
            go_wp2_with fail
            go_roundw
            case rel => exact ⟨k + 1, by omega, by go_num, by go_num, HNX.out, by rw [Hid, HC2.out]; exact hlast.out.ext (hEa.trans hE1), hE.trans (hEa.trans hE1)⟩
            case measure => simp [intOf]; omega
      · have HC := Lib.hid (HN0.out fun h => hn (HFOL.out.1 h).2.1)
        go_wp2_with fail
        (try rw [Exit.noGoto_ret])
        go_ret2
        exact ⟨_, by rw [HC.out]; rfl, by rw [HC.out]; exact hlast.out.ext hEa, hE.trans hEa⟩
    · obtain rfl : k = l.length := by omega
      have HC := Lib.hid (Ent.chain_end hch.out)
      obtain ⟨au, nu, ku, rfl⟩ := LastIs.isSlice hlast.out
      go_wp2_with fail
      (try rw [Exit.noGoto_ret])
      go_ret2
      exact ⟨_, by rw [HC.out]; rfl, by rw [HC.out]; exact hlast.out, hE⟩
end Go.Proofs.Ytboopfbflfimlaa
