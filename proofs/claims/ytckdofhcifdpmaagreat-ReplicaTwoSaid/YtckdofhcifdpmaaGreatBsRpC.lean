/-
  Merged: Layer 11: read: what the frames of a store tell.
-/
import Derived.Test.YtckdofhcifdpmaaGreatBsPgV
import Derived.Test.YtckdofhcifdpmaaGreatBsRpB

namespace Go.Proofs.YtckdofhcifdpmaaGreat
set_option linter.unusedSimpArgs false
set_option linter.unusedVariables false
set_option maxRecDepth 100000
open Go.RowKit
/- Layer 11: read: what the frames of a store tell. -/
theorem keepU_grown {a b : World} {B size n : Nat} {v : Value} {xs : List Value} (hg : a.grownBy b v.ownBlock) (hr : a.ownsRow B 77 size v n xs) : KeepU a b := fun k cs fr hk => hg.block k (Array.getElem?_eq_some_iff.1 hk).1 (rowBeside hr hk (by decide))
theorem keepR_grown {a b : World} {B size n : Nat} {v : Value} {xs : List Value} (hg : a.grownBy b v.ownBlock) (hr : a.ownsRow B 77 size v n xs) : KeepR a b := fun k cs fr hk => hg.block k (Array.getElem?_eq_some_iff.1 hk).1 (rowBeside hr hk (by decide))
theorem RowN.grown {a b : World} {C B size n : Nat} {u v : Value} {l : List Int} {xs : List Value} (h : RowN C a u l) (hg : a.grownBy b v.ownBlock) (hr : a.ownsRow B 77 size v n xs) : RowN C b u l := by
  obtain ⟨c, m, hc, h⟩ := h
  exact ⟨c, m, hc, rowOwn h fun k hk => by
    obtain ⟨cur, hcur⟩ := ownAt h hk
    exact hg.block k (Array.getElem?_eq_some_iff.1 hcur).1 (rowBeside hr hcur (by decide))⟩
theorem extGrown {w a b : World} {size n : Nat} {v : Value} {xs : List Value} {e : TypeId} (h : Ext w a) (hg : a.grownBy b v.ownBlock) (hr : a.ownsRow w.heap.size e size v n xs) : Ext w b :=
  Below.trans (B := w.heap.size) h ⟨hg.os, hg.tape, hg.output, hg.size, fun k hk => hg.block k (Nat.lt_of_lt_of_le hk h.size) (fun e => by have := (hr.lt k e.symm).1; omega)⟩
/-- What was read so far. -/
structure Read11 (w : World) (S : Page.St) (k : Nat) (u : Value) (sl : Bool) (es : List (Value × Ent.E)) (fv : Value) (wr : World) : Prop where
  ext : Ext w wr
  fr : FrRow wr fv S.l
  row : wr.ownsRow w.heap.size 77 6 u es.length (entFlat es)
  cuts : ∀ q ∈ es, RowN w.heap.size wr q.1 q.2.cut
  is : Rep.readG (S.l.take k) = some ⟨es.map (·.2), sl⟩
theorem Read11.later {w wr w' : World} {S : Page.St} {k : Nat} {u fv : Value} {sl : Bool} {es : List (Value × Ent.E)} (h : Read11 w S k u sl es fv wr) (hE : Ext wr w') : Read11 w S k u sl es fv w' := ⟨h.ext.trans hE, h.fr.ext hE, rowExt h.row hE, fun q hq => (h.cuts q hq).ext hE, h.is⟩
def GivesRead11 (w : World) (S : Page.St) (e : Ending) (w' : World) : Prop :=
  ∃ u es sl is, e = .returned (.tuple #[u, .bool sl, .bool is]) ∧ Ext w w' ∧ w'.ownsRow w.heap.size 77 6 u es.length (entFlat es) ∧ (∀ q ∈ es, RowN w.heap.size w' q.1 q.2.cut) ∧ is = (Rep.readF S.l).isSome ∧ ∀ W, Rep.readF S.l = some W → es.map (·.2) = W.l ∧ sl = W.sealed
theorem dec_none5 {f : List UInt8} (h : Ent.dec Ent.vd f = none) : Ent.errOf (Crc.cutOf f) (Ent.dec Ent.vd f) ≠ 0 := by
  rw [h]
  unfold Ent.errOf
  cases Crc.cutOf f <;> simp
theorem dec_some5 {f : List UInt8} {e : Ent.E} {er : Int} (h : Ent.dec Ent.vd f = some e) (h2 : Ent.errOf (Crc.cutOf f) (Ent.dec Ent.vd f) = er) : er = 0 := by
  rw [h] at h2
  cases hc : Crc.cutOf f with
  | none =>
    unfold Ent.dec at h
    rw [hc] at h
    cases h
  | some x =>
    rw [hc] at h2
    exact h2.symm
set_option maxHeartbeats 8000000 in
theorem read11_any {w : World} {B p : Nat} {va vp : Value} {S : Page.St} (h : IsSto w B p va vp S) :
    Calls Tryz.prog 53 #[.pointer (some ⟨p, 0, none⟩)] w (GivesRead11 w S) := by
  have hsm := h.ok.small
  have hun0 : S.l.length ≤ 13107 := by
    have h2 := Page.count_le S.l
    have h3 := h.ok.max
    omega
  have HSM := Lib.hid hsm
  have HUN := Lib.hid hun0
  have HFR := Lib.hid (frames8_any h)
  clear h hsm
  go_enter Tryz.func53, Tryz.ntmps53
  go_wp2_with fail
  go_step3
  go_wp2_with fail
  refine HFR.out.mono ?_
  rintro e w2 ⟨es0, u0, rfl, hx, ho, hgood, hE2⟩
  have hfr := FrRow.of ho hx hgood
  obtain ⟨ua, uc, rfl⟩ : ∃ ua uc, u0 = .slice ua S.l.length uc := by
    obtain ⟨x, y, e, _⟩ := hfr
    exact ⟨x, y, e⟩
  obtain ⟨un, hun⟩ : ∃ un, S.l.length = un := ⟨_, rfl⟩
  rw [hun] at hfr hun0 ⊢
  have HN := Lib.hid hun
  have HI0 := Lib.hid (show Read11 w S 0 (.slice none 0 0) false [] (.slice ua un uc) w2 from ⟨hE2, hfr, World.ownsRow_nil _ _ _ _, fun q hq => (by cases hq), rfl⟩)
  clear hx hun ho hfr hgood hE2 HFR HUN
  go_wp2_with fail
  go_step3
  go_wp2_with fail
  go_loopw [2, 3, 6, 15] (fun u sv nv i wr => ∃ (k : Nat) (sl : Bool) (es : List (Value × Ent.E)), k ≤ un ∧ i = .int .i64 k ∧ nv = .int .i64 k ∧ sv = .bool sl ∧ (∃ a n c, u = .slice a n c) ∧ Hid (Read11 w S k u sl es (.slice ua un uc) wr)) (fun _ _ _ i _ => un - (intOf i).toNat)
  case atStart => exact ⟨0, false, [], by omega, rfl, rfl, rfl, ⟨_, _, _, rfl⟩, HI0⟩
  case round =>
    obtain ⟨k, sl, es, hk, rfl, rfl, rfl, ⟨au, nu, cu, rfl⟩, hI⟩ := hrel
    by_cases hlt : k < un
    · have hkl : k < S.l.length := by rw [HN.out]; exact hlt
      obtain ⟨_, _, e1, _, hf1⟩ := hI.out.fr
      obtain ⟨b1, o1, a', n', c', rfl, hc1, hb1⟩ := hf1 k hkl
      injection e1 with e1 e9 e3
      subst e1 e3
      clear e9 hf1
      have hsmall : (S.l[k]).length ≤ 200000 := by
        have := HSM.out _ (List.getElem_mem hkl)
        unfold Page.small at this
        omega
      have hsucc := Rep.readG_succ hkl
      rw [hI.out.is] at hsucc
      obtain ⟨f, hf⟩ : ∃ f, S.l[k] = f := ⟨_, rfl⟩
      rw [hf] at hsmall hb1 hsucc
      have HSU := Lib.hid hsucc
      have HD := Lib.hid (decode5_fresh _ f wr hb1.1 hsmall)
      have HB := Lib.hid hb1
      clear hb1 hf hsmall hsucc
      go_wp2_with fail
      refine HD.out.mono ?_
      rintro e w3 ⟨uv, rfl, ⟨tv, rfl, ht3⟩, hE3⟩
      obtain ⟨ta, tn, tc, rfl⟩ := ownSlice ht3.choose_spec.choose_spec.2
      have hI3 := hI.out.later hE3
      have hb3 := (HB.out.keep (KeepU.ext hE3)).1
      obtain ⟨er, her⟩ : ∃ z, Ent.errOf (Crc.cutOf f) (Ent.dec Ent.vd f) = z := ⟨_, rfl⟩
      obtain ⟨E, hEE⟩ : ∃ z, Ent.entOf (Ent.dec Ent.vd f) = z := ⟨_, rfl⟩
      rw [hEE] at ht3 ⊢
      rw [her]
      have HER := Lib.hid her
      have HEE := Lib.hid hEE
      obtain ⟨e0, e1, e2, e3, e4, e5⟩ := E
      have HT3 := Lib.hid (RowN.lower ht3 hI.out.ext.size)
      have hEa : Ext w3 (w3.alloc (.cells #[.int .i64 e0, .int .i64 e1, .slice ta tn tc, .int .i64 e3, .int .i64 e4, .int .i64 e5] 77)) := Ext.alloc _ _
      have hat : EntAt 77 (w3.alloc (.cells #[.int .i64 e0, .int .i64 e1, .slice ta tn tc, .int .i64 e3, .int .i64 e4, .int .i64 e5] 77)) w3.heap.size (.slice ta tn tc) ⟨e0, e1, e2, e3, e4, e5⟩ := heap_alloc_new w3 _
      obtain ⟨w4, hw4⟩ : ∃ z, w3.alloc (.cells #[.int .i64 e0, .int .i64 e1, .slice ta tn tc, .int .i64 e3, .int .i64 e4, .int .i64 e5] 77) = z := ⟨_, rfl⟩
      rw [hw4] at hEa hat
      have HI4 := Lib.hid (hI3.later hEa)
      have hst := run_str (P := Tryz.prog) 28 9 5 Tryz.underlying28 Tryz.underlying5 Tryz.underlying9 (hb3.below hEa)
      have HT4 := Lib.hid (HT3.out.ext hEa)
      have HW4 := Lib.hid hw4
      unfold entV
      simp only
      clear hE3 ht3 hI3 hb3 her hEE hEa hw4 hc1
      go_upto_region 7 with fail
      rw [HW4.out]
      obtain ⟨c0, c1, c2, c3, c4, c5⟩ := hat.cells
      clear hat
      simp only at c0 c1 c2 c3 c4 c5
      have hstop : Rep.readG (S.l.take (k + 1)) = none → ∀ (b : Bool), GivesRead11 w S (.returned (.tuple #[.slice au nu cu, .bool b, .bool false])) w4 := fun h b => by
        have hn := Rep.readG_stop h
        refine ⟨_, es, b, false, rfl, HI4.out.ext, HI4.out.row, HI4.out.cuts, ?_, ?_⟩
        · rw [Rep.readF_is, hn]
          rfl
        · intro W hW
          rw [Rep.readF_is, hn] at hW
          cases hW
      have HSTOP := Lib.hid hstop
      have hkne : ((k : Int) == (un : Int)) = false := by simp; omega
      have hkn2 : ¬ k = un := by omega
      clear hstop
      cases sl with
      | true =>
        have hn : Rep.readG (S.l.take (k + 1)) = none := by rw [HSU.out]; rfl
        have HN1 := Lib.hid hn
        clear hn hst c0 c1 c2 c3 c4 c5
        go_wp2_with fail
        (try rw [Exit.noGoto_ret])
        go_ret3
        exact HSTOP.out HN1.out _
      | false =>
        by_cases hf0 : f = [0]
        · subst hf0
          have hn : Rep.readG (S.l.take (k + 1)) = some ⟨es.map (·.2), true⟩ := by rw [HSU.out]; rfl
          have HI5 := Lib.hid (show Read11 w S (k + 1) (.slice au nu cu) true es (.slice (some ⟨b1, o1, none⟩) un uc) w4 from ⟨HI4.out.ext, HI4.out.fr, HI4.out.row, HI4.out.cuts, hn⟩)
          clear hn c0 c1 c2 c3 c4 c5 hkne hkn2
          go_wp2_with fail
          go_roundw
          case rel => exact ⟨k + 1, true, es, by omega, by go_num, by go_num, rfl, ⟨_, _, _, rfl⟩, HI5⟩
          case measure => simp [intOf]; omega
        · have hfb : (f == [0]) = false := by simpa using hf0
          cases hdc : Ent.dec Ent.vd f with
          | none =>
            have hen : ¬ er = 0 := by rw [← HER.out]; exact dec_none5 hdc
            have heb : (er != 0) = true := by simpa using hen
            have hn : Rep.readG (S.l.take (k + 1)) = none := by
              rw [HSU.out]
              show Rep.step2 _ f = none
              unfold Rep.step2
              rw [if_neg (by simp), if_neg hf0, hdc]
            have HN1 := Lib.hid hn
            clear hn c0 c1 c2 c3 c4 c5 hdc
            go_wp2_with fail
            (try rw [Exit.noGoto_ret])
            go_ret3
            exact HSTOP.out HN1.out _
          | some E1 =>
            have he1 : er = 0 := dec_some5 hdc HER.out
            have he2 : E1 = ⟨e0, e1, e2, e3, e4, e5⟩ := by have := HEE.out; rw [hdc] at this; exact this
            subst he1 he2
            have hn : Rep.readG (S.l.take (k + 1)) = some ⟨es.map (·.2) ++ [⟨e0, e1, e2, e3, e4, e5⟩], false⟩ := by
              rw [HSU.out]
              show Rep.step2 _ f = _
              unfold Rep.step2
              rw [if_neg (by simp), if_neg hf0, hdc]
            have HN1 := Lib.hid hn
            have te := tE
            have hrow := HI4.out.row
            have hlen : es.length ≤ k := by
              have := Rep.readG_len _ _ rfl _ HI4.out.is
              simp at this
              omega
            have hpi : ∀ q ∈ [((Value.slice ta tn tc), (⟨e0, e1, e2, e3, e4, e5⟩ : Ent.E))], Ints w4 q.1 q.2.cut := fun q hq => by
              obtain rfl := List.mem_singleton.1 hq
              exact HT4.out.row.ints
            have hone := entFlat_one hpi
            have hEb : Ext w4 (w4.alloc (.cells #[.int .i64 e0, .int .i64 e1, .slice ta tn tc, .int .i64 e3, .int .i64 e4, .int .i64 e5] 77)) := Ext.alloc _ _
            have O2 := Lib.hid (rowExt hrow hEb)
            have HSL := Lib.hid (SlN.one6 (T := 77) w4 (.slice ta tn tc) ⟨e0, e1, e2, e3, e4, e5⟩)
            have HI5 := Lib.hid (HI4.out.later hEb)
            have HT5 := Lib.hid (HT4.out.ext hEb)
            have hk1 : es.length + 1 ≤ maxLen := by unfold maxLen; have := HN.out; omega
            have hk2 : (es.length + 1) * 64 ≤ 140737488355328 := by omega
            have hk3 : w.heap.size ≤ (w4.alloc (.cells #[.int .i64 e0, .int .i64 e1, .slice ta tn tc, .int .i64 e3, .int .i64 e4, .int .i64 e5] 77)).heap.size := HI5.out.ext.size
            have HK := Lib.hid (And.intro hk1 (And.intro hk2 hk3))
            clear hn hdc hrow hlen hpi hEb hk1 hk2 hk3 hkne hkn2
            go_wp2_with (at_builtin; go_loud (refine wpList_appN rfl (.tmp 24) (.tmp 26) te rfl rfl rfl O2.out HSL.out hone HK.out.1 HK.out.2.1 HK.out.2.2 ?_); intro v9 w9 hown9 hg9)
            obtain ⟨a9, n9, c9, rfl⟩ := ownSlice hown9
            have hI9 : Read11 w S (k + 1) (.slice a9 n9 c9) false (es ++ [(.slice ta tn tc, ⟨e0, e1, e2, e3, e4, e5⟩)]) (.slice (some ⟨b1, o1, none⟩) un uc) w9 := by
              refine ⟨extGrown HI5.out.ext hg9 O2.out, HI5.out.fr.keep (keepU_grown hg9 O2.out) (keepR_grown hg9 O2.out), ?_, ?_, ?_⟩
              · rw [entFlat_append, List.length_append]
                exact hown9
              · intro q hq
                rcases List.mem_append.1 hq with h | h
                · exact (HI5.out.cuts q h).grown hg9 O2.out
                · obtain rfl := List.mem_singleton.1 h
                  exact HT5.out.grown hg9 O2.out
              · rw [HN1.out, List.map_append]
                rfl
            have HI9 := Lib.hid hI9
            clear hI9 hown9 hg9
            go_wp2_with fail
            go_roundw
            case rel => exact ⟨k + 1, false, _, by omega, by go_num, by go_num, rfl, ⟨_, _, _, rfl⟩, HI9⟩
            case measure => simp [intOf]; omega
    · obtain rfl : k = un := by omega
      have hfull : S.l.take k = S.l := List.take_of_length_le (by rw [HN.out]; exact Nat.le_refl _)
      have hIS := hI.out.is
      rw [hfull] at hIS
      have hents : Ents wr (.slice au nu cu) (es.map (·.2)) := ents_of_flat (fun q hq => (hI.out.cuts q hq).row.ints) (SlN.ofOwn hI.out.row)
      have hnu2 : nu = es.length := by
        obtain ⟨_, _, e1, _⟩ := hents.shape
        injection e1 with _ hnu _
        rw [hnu]
        simp
      have HIS := Lib.hid hIS
      have HCH := Lib.hid (chain5_any _ _ wr hents)
      have HNU := Lib.hid hnu2
      clear hfull hIS hents hnu2
      go_wp2_with fail
      refine HCH.out.mono ?_
      rintro e w6 ⟨rfl, hE6⟩
      obtain ⟨ch, hch⟩ : ∃ z, Ent.chain (es.map (·.2)) = z := ⟨_, rfl⟩
      have HI6 := Lib.hid (hI.out.later hE6)
      have HC := Lib.hid hch
      rw [hch]
      clear hE6 hch
      have hfin : ∀ b : Bool, b = decide (ch = nu) → GivesRead11 w S (.returned (.tuple #[.slice au nu cu, .bool sl, .bool b])) w6 := fun b hb => by
        have hr : Rep.readF S.l = Rep.chk ⟨es.map (·.2), sl⟩ := by rw [Rep.readF_is, HIS.out]; rfl
        have hc : Rep.chk ⟨es.map (·.2), sl⟩ = if ch = nu then some ⟨es.map (·.2), sl⟩ else none := by
          unfold Rep.chk
          show (if Ent.chain (es.map (·.2)) = (es.map (·.2)).length then _ else _) = _
          rw [HC.out, List.length_map, HNU.out]
        refine ⟨_, es, sl, b, rfl, HI6.out.ext, HI6.out.row, HI6.out.cuts, ?_, ?_⟩
        · rw [hr, hc, hb]
          by_cases h : ch = nu
          · rw [if_pos h, decide_eq_true h]; rfl
          · rw [if_neg h, decide_eq_false h]; rfl
        · intro W hW
          rw [hr, hc] at hW
          by_cases h : ch = nu
          · rw [if_pos h] at hW
            injection hW with hW
            subst hW
            exact ⟨rfl, rfl⟩
          · rw [if_neg h] at hW
            cases hW
      have HFIN := Lib.hid hfin
      clear hfin
      by_cases hq : ch = nu
      · have hqb : ((ch : Int) == (nu : Int)) = true := by simp [hq]
        have HQ := Lib.hid hq
        clear hq
        go_wp2_with fail
        (try rw [Exit.noGoto_ret])
        go_ret3
        exact HFIN.out _ (by rw [decide_eq_true HQ.out])
      · have hqb : ((ch : Int) == (nu : Int)) = false := by simp; omega
        have HQ := Lib.hid hq
        clear hq
        go_wp2_with fail
        (try rw [Exit.noGoto_ret])
        go_ret3
        exact HFIN.out _ (by rw [decide_eq_false HQ.out])
end Go.Proofs.YtckdofhcifdpmaaGreat
