/-
  RecordParts: which records of two rows, one behind the other, have a tag is told by which of each have it: for every input the statement's function returns true, and leaves what came in as it was.
-/
import Derived.Test.YtjflbjlpibekhaaRecRaw
import Derived.Test.YtjflbjlpibekhaaRecApp
import Derived.Maps.AppendAt
namespace Go.Proofs.Ytjflbjlpibekhaa
set_option maxRecDepth 100000
open Go.ChangeShapes Go.WideShapes Go.ChangeAt Go.RowKit

/-- append(s, x...), x not empty: where the new slice lies. -/
theorem wpList_app_at {P : Program} {w : World} {ops : Array Oper} {rest : List Oper} {o : Oper} {a : Act} {Q : Exit → Act → World → Prop} (hgd : o.guard = none) (s x : Operand) {t e : TypeId} {z : Value} {bytes : Nat} (E : ElemOf P t e z bytes)
    (ho : o.op = .call { callee := .builtin .append, args := #[s, x], argTypes := #[t, t] }) {base : Nat} {v u : Value} {n : Nat} {xs ys : List Value} (hs : a.eval s = v) (hx : a.eval x = u)
    (hown : w.ownsRow base e 1 v n xs) (hu : Sl w u ys) (hne : 0 < ys.length) (h1 : ∀ y ∈ ys, y.oneCell' = true) (hsz : n + ys.length ≤ maxLen) (hby : (n + ys.length) * bytes ≤ 140737488355328) (hb : base ≤ w.heap.size)
    (h : ∀ v' w', w'.ownsRow base e 1 v' (n + ys.length) (xs ++ ys) → w.grownBy w' v.ownBlock → (v'.ownBlock = v.ownBlock ∨ v'.ownBlock = some w.heap.size) → wpList P ops Q rest (a.put o.dst v') w') : wpList P ops Q (o :: rest) a w := by
  obtain ⟨i, hi, hz, h2, h3⟩ := info_parts E.info
  obtain ⟨aa, cap, rfl, hc, hm, hn, hcell⟩ := hu
  obtain ⟨b, off, rfl, _⟩ := hcell 0 hne
  exact wpList_append_own_at w hgd s x t ho base e i z 1 bytes E.slice hi hz h2 h3 E.one (by omega) v n xs hs hown ⟨b, off, none⟩ ys.length cap ys hx (by simp)
    (fun j y hj => by
      obtain ⟨hj1, rfl⟩ := List.getElem?_eq_some_iff.1 hj
      obtain ⟨b', off', e', hc'⟩ := hcell j hj1
      injection e' with e'; injection e' with e1 e2
      subst e1 e2
      rw [Addr.add_lit]; exact hc') h1 hsz hby hb (fun v' w' q1 q2 _ q4 => h v' w' q1 q2 q4)
/-- Two rows of the call's own that lie apart stay so. -/
def Apart (v o : Value) : Prop := v.ownBlock = none ∨ v.ownBlock ≠ o.ownBlock
theorem Apart.next {w w1 : World} {base n : Nat} {e : TypeId} {v o o' : Value} {xs : List Value} (h : Apart v o) (hv : w.ownsRow base e 1 v n xs) (hE : Ext w w1) (hb : o'.ownBlock = o.ownBlock ∨ o'.ownBlock = some w1.heap.size) : Apart v o' := by
  rcases h with h | h
  · exact .inl h
  · rcases hv.2 with ⟨h', _⟩ | ⟨g, cc, cur, h', hg, hh, _⟩
    · exact .inl (by rw [h']; rfl)
    · refine .inr fun e2 => ?_
      rcases hb with hb | hb
      · exact h (e2.trans hb)
      · rw [hb, h'] at e2
        have hlt : g < w.heap.size := (Array.getElem?_eq_some_iff.1 hh).1
        have := hE.size
        have : g = w1.heap.size := by simpa [Value.ownBlock] using e2
        omega
theorem Apart.kept {w w' : World} {base n : Nat} {e : TypeId} {v o : Value} {xs : List Value} (h : Apart v o) (hv : w.ownsRow base e 1 v n xs) (hg : w.grownBy w' o.ownBlock) : w'.ownsRow base e 1 v n xs := hv.kept hg h
theorem apart_of {w w1 : World} {base b2 m n : Nat} {e : TypeId} {v o : Value} {xs ys : List Value} (hv : w.ownsRow base e 1 v n xs) (ho : w1.ownsRow b2 e 1 o m ys) (hb : w.heap.size ≤ b2) : Apart v o := by
  rcases hv.2 with ⟨h', _⟩ | ⟨g, cc, cur, h', hg, hh, _⟩
  · exact .inl (by rw [h']; rfl)
  · refine .inr fun e2 => ?_
    rw [h'] at e2
    have hlt : g < w.heap.size := (Array.getElem?_eq_some_iff.1 hh).1
    have := (ho.lt g e2.symm).1
    omega

theorem taggedFrom_in (tag : Int) : ∀ (l : List Rec.R) (k : Nat), ∀ x ∈ Rec.taggedFrom tag k l, (k : Int) ≤ x ∧ x < (k : Int) + l.length := by
  intro l
  induction l with
  | nil => intro k x hx; cases hx
  | cons r l ih =>
    intro k x hx
    simp only [Rec.taggedFrom] at hx
    have key : x ∈ Rec.taggedFrom tag (k + 1) l → (k : Int) ≤ x ∧ x < (k : Int) + (r :: l).length := by
      intro h
      have := ih (k + 1) x h
      simp only [List.length_cons]
      omega
    split at hx
    · rcases List.mem_cons.1 hx with rfl | h
      · simp only [List.length_cons]; omega
      · exact key h
    · exact key hx
theorem tagged_in (l : List Rec.R) (tag : Int) : ∀ x ∈ Rec.tagged l tag, 0 ≤ x ∧ x < (l.length : Int) := by
  intro x hx
  have := taggedFrom_in tag l 0 x hx
  omega

set_option maxHeartbeats 8000000 in
theorem recordParts_walk (v u : Value) (la lb : List Rec.R) (tag : Int) (W : World) (hv : Recs W v la) (hu : Recs W u lb) :
    Calls Try.prog 10 #[v, u, .int .i64 tag] W fun e W' => e = .returned (.bool true) ∧ Below W.heap.size W W' := by
  have HV := Lib.hid hv
  have HU := Lib.hid hu
  obtain ⟨pa, ea, ia, sa⟩ := recs_flat hv
  obtain ⟨pb, eb, ib, sb⟩ := recs_flat hu
  obtain ⟨a, cap, rfl, hcap, hmax, _, _⟩ := hv
  obtain ⟨b, cap2, rfl, hcap2, hmax2, _, _⟩ := hu
  unfold maxLen at hmax hmax2
  have same1 : ∀ l : List Int, (l == l) = true := fun l => by simp
  by_cases h1 : (100 : Int) < (la.length : Int)
  · clear ea eb ia ib sa sb
    go_enter Try.func10, Try.ntmps10
    go_wp2_with fail
    refine (recAlive_any _).mono ?_
    rintro e w1 ⟨rfl, hE1⟩
    go_wp2_with fail
    go_ret
    exact ⟨rfl, hE1⟩
  by_cases h2 : (100 : Int) < (lb.length : Int)
  · clear ea eb ia ib sa sb
    go_enter Try.func10, Try.ntmps10
    go_wp2_with fail
    refine (recAlive_any _).mono ?_
    rintro e w1 ⟨rfl, hE1⟩
    go_wp2_with fail
    go_ret
    exact ⟨rfl, hE1⟩
  have tr := tR
  have ti := tI
  have hE0 : Ext W (W.alloc (.cells #[] 26)) := Ext.alloc _ _
  have hown0 : (W.alloc (.cells #[] 26)).ownsRow W.heap.size 26 4 (.slice (some ⟨W.heap.size, 0, none⟩) 0 0) 0 [] := World.ownsRow_made W #[] 0 (Nat.le_refl _) (by simp [maxLen]) (by simp)
  have SA := Lib.hid (sa.below hE0)
  have SB := Lib.hid sb
  have oa := recFlat_one ia
  have ob := recFlat_one ib
  have EA := Lib.hid ea
  have EB := Lib.hid eb
  have IA := Lib.hid ia
  have IB := Lib.hid ib
  have hk1 : 0 + la.length ≤ maxLen := by unfold maxLen; omega
  have hk2 : (0 + la.length) * 56 ≤ 140737488355328 := by omega
  have hk3 : 0 + la.length + lb.length ≤ maxLen := by unfold maxLen; omega
  have hk4 : (0 + la.length + lb.length) * 56 ≤ 140737488355328 := by omega
  have hb0 : W.heap.size ≤ (W.alloc (.cells #[] 26)).heap.size := hE0.size
  clear ea eb ia ib sa sb
  go_enter Try.func10, Try.ntmps10
  go_wp2_with (first | (at_builtin; refine wpList_appN rfl (.tmp 20) (.tmp 21) tr rfl rfl rfl hown0 SA.out oa hk1 hk2 hb0 ?_; intro v2 w2 hown2 hg2; have hE2 : Ext W w2 := Below.grown hE0 hg2 hE0.size (fun k hk => (hown0.lt k hk).1)) | (at_builtin; refine wpList_appN rfl (.tmp 22) (.tmp 23) tr rfl rfl rfl hown2 (SB.out.below hE2) ob hk3 hk4 hE2.size ?_; intro v3 w3 hown3 hg3; have hE3 : Ext W w3 := Below.grown hE2 hg3 hE2.size (fun k hk => (hown2.lt k hk).1)))
  have hall : Recs w3 v3 (la ++ lb) := by
    have hs := SlN.ofOwn hown3
    rw [List.nil_append, ← recFlat_append] at hs
    have hl : (pa ++ pb).length = 0 + la.length + lb.length := by
      rw [List.length_append, ← EA.out, ← EB.out]
      simp
    rw [← hl] at hs
    have := recs_of_flat (w := w3) (v := v3) (ps := pa ++ pb) (by
      intro p hp
      rcases List.mem_append.1 hp with h | h
      · exact (IA.out p h).below hE3
      · exact (IB.out p h).below hE3) hs
    rw [List.map_append, EA.out, EB.out] at this
    exact this
  have HALL := Lib.hid hall
  obtain ⟨a3, cap3, rfl, _⟩ := hall
  clear hown2 hown3 hg2 hg3 hown0 hk1 hk2 hk3 hk4 oa ob tr hE2
  refine (tagged_own _ (la ++ lb) tag _ HALL.out (by rw [List.length_append]; omega)).mono ?_
  rintro e w4 ⟨u4, rfl, ho4, hE4⟩
  obtain ⟨a4, n4, c4, rfl⟩ := own_slice4 ho4
  have HO4 := Lib.hid ho4
  have hE4' := hE3.trans hE4
  clear ho4
  go_wp2_with fail
  refine (tagged_own _ la tag _ (HV.out.below hE4') (by omega)).mono ?_
  rintro e w5 ⟨u5, rfl, ho5, hE5⟩
  have hE5' := hE4'.trans hE5
  obtain ⟨a5, n5, c5, rfl⟩ := own_slice4 ho5
  have HO5 := Lib.hid ho5
  clear ho5
  go_wp2_with fail
  refine (tagged_own _ lb tag _ (HU.out.below hE5') (by omega)).mono ?_
  rintro e w6 ⟨u6, rfl, ho6, hE6⟩
  have hE6' := hE5'.trans hE6
  have hab := Rec.tagged_append la lb tag
  have hin := tagged_in lb tag
  have hla := Rec.tagged_len la tag
  have hlb := Rec.tagged_len lb tag
  obtain ⟨ta, hta⟩ : ∃ ta, Rec.tagged la tag = ta := ⟨_, rfl⟩
  obtain ⟨tb, htb⟩ : ∃ tb, Rec.tagged lb tag = tb := ⟨_, rfl⟩
  rw [hta, htb] at hab
  rw [hta] at HO5 hla
  rw [htb] at ho6 hin hlb
  have HAB := Lib.hid hab
  have HIN := Lib.hid hin
  obtain ⟨a6, n6, c6, rfl⟩ := own_slice4 ho6
  have hn6 := (Ints.len (show Ints w6 _ tb from Sl.ofOwn ho6)).1
  subst hn6
  have hO5 := row_ext4 (row_lower4 HO5.out hE4'.size) hE6
  have hd6 : Apart (.slice a6 tb.length c6) (.slice a5 n5 c5) := by
    rcases ho6.2 with ⟨h, _⟩ | ⟨g, cc, cur, h, hg, _⟩
    · exact .inl (by rw [h]; rfl)
    · refine .inr fun e => ?_
      rw [h] at e
      have := (HO5.out.lt g (by rw [← e]; rfl)).2
      omega
  have HD6 := Lib.hid hd6
  have HD4 := Lib.hid (apart_of HO4.out HO5.out (Nat.le_refl _))
  have HO6 := Lib.hid (row_lower4 ho6 hE5'.size)
  have HO4' := Lib.hid (row_ext4 (row_ext4 (row_lower4 HO4.out hE3.size) hE5) hE6)
  have HO5' := Lib.hid hO5
  clear ho6 hO5 hd6 hab hin hta htb
  go_wp2_with fail
  go_loopw [8, 10, 34] (fun o _ i wr => ∃ k : Nat, k ≤ tb.length ∧ i = .int .i64 k ∧ Hid (wr.ownsRow W.heap.size 3 1 o (ta.length + k) (i64s (ta ++ (tb.take k).map (fun x => (la.length : Int) + x)))) ∧
    Hid (wr.ownsRow W.heap.size 3 1 (.slice a6 tb.length c6) tb.length (i64s tb)) ∧ Hid (Apart (.slice a6 tb.length c6) o) ∧ Hid (wr.ownsRow W.heap.size 3 1 (.slice a4 n4 c4) (Rec.tagged (la ++ lb) tag).length (i64s (Rec.tagged (la ++ lb) tag))) ∧ Hid (Apart (.slice a4 n4 c4) o) ∧ Ext W wr) (fun _ _ i _ => tb.length - (intOf i).toNat)
  case atStart =>
    refine ⟨0, by omega, rfl, ?_, HO6, HD6, HO4', HD4, hE6'⟩
    simpa [Hid] using HO5'.out
  case round =>
    obtain ⟨k, hk, rfl, ho, ho6, hd6, ho4, hd4, hE⟩ := hrel
    by_cases hlt : k < tb.length
    · obtain ⟨a', cap', e', _, _, _, hc⟩ := Ints.open (show Ints wr (.slice a6 tb.length c6) tb from Sl.ofOwn ho6.out)
      obtain ⟨g, off, rfl, hcell⟩ := hc k hlt
      injection e' with e1 e2 e3
      subst e1
      have hy := HIN.out tb[k] (List.getElem_mem hlt)
      have hnx : (tb.take (k + 1)).map (fun x => (la.length : Int) + x) = (tb.take k).map (fun x => (la.length : Int) + x) ++ [(la.length : Int) + tb[k]] := by
        rw [take_succ_getD tb k hlt, List.map_append]
        rfl
      obtain ⟨y, hyy⟩ : ∃ y, tb[k] = y := ⟨_, rfl⟩
      rw [hyy] at hcell hy hnx
      have hsum : IntKind.i64.wrap ((la.length : Int) + y) = (la.length : Int) + y := IntWalk.i64_in _ (by omega)
      have hone := i64s_one [(la.length : Int) + y]
      have HNX := Lib.hid hnx
      have hEa : Ext wr (wr.alloc (.cells #[.int .i64 ((la.length : Int) + y)] 3)) := Ext.alloc _ _
      have O8 := Lib.hid (ho.out.alloc (.cells #[.int .i64 ((la.length : Int) + y)] 3))
      have HSL := Lib.hid (show Sl (wr.alloc (.cells #[.int .i64 ((la.length : Int) + y)] 3)) (.slice (some ⟨wr.heap.size, 0, none⟩) 1 1) (i64s [(la.length : Int) + y]) from Ints.one wr _)
      have hb8 := (hE.trans hEa).size
      clear hc e2 e3 hyy hnx
      go_wp2_with (at_builtin; refine wpList_app_at rfl (.tmp 38) (.tmp 43) ti rfl (base := W.heap.size) (n := ta.length + k) (xs := i64s (ta ++ (tb.take k).map (fun x => (la.length : Int) + x))) (ys := i64s [(la.length : Int) + y]) rfl rfl O8.out HSL.out (by simp) hone ?c3 ?c4 hb8 ?_; rotate_right; intro v9 w9 hown9 hg9 hw9)
      case c3 => (try simp only [i64s_length, List.length_cons, List.length_nil]); (try unfold maxLen); omega
      case c4 => (try simp only [i64s_length, List.length_cons, List.length_nil]); omega
      go_roundw
      case rel =>
        refine ⟨k + 1, by omega, by go_num, ?_, ?_, ?_, ?_, ?_, ?_⟩
        · unfold Hid
          rw [HNX.out, ← List.append_assoc, i64s_append]
          simpa [Nat.add_assoc] using hown9
        · exact hd6.out.kept (row_ext4 ho6.out hEa) hg9
        · exact hd6.out.next ho6.out hEa hw9
        · exact hd4.out.kept (row_ext4 ho4.out hEa) hg9
        · exact hd4.out.next ho4.out hEa hw9
        · exact Below.grown (hE.trans hEa) hg9 hb8 (fun j hj => (O8.out.lt j hj).1)
      case measure => simp [intOf]; omega
    · have hall : tb.take k = tb := List.take_of_length_le (by omega)
      rw [hall] at ho
      obtain ⟨a8, n8, c8, rfl⟩ := own_slice4 ho.out
      have HI8 := Lib.hid (show Ints wr (.slice a8 n8 c8) (ta ++ tb.map (fun x => (la.length : Int) + x)) from Sl.ofOwn ho.out)
      have HI4 := Lib.hid (show Ints wr (.slice a4 n4 c4) (Rec.tagged (la ++ lb) tag) from Sl.ofOwn ho4.out)
      rw [HAB.out] at HI4
      clear ho hall
      go_wp2_with fail
      refine (recAlive_any _).mono ?_
      rintro e w7 ⟨rfl, hE7⟩
      go_wp2_with fail
      refine (equal3_any _ _ _ _ _ (HI4.out.below hE7) (HI8.out.below hE7)).mono ?_
      rw [same1]
      rintro e w8 ⟨rfl, hE8⟩
      go_wp2_with fail
      go_ret
      exact ⟨rfl, (hE.trans hE7).trans hE8⟩

namespace recordParts
theorem own : ownKnob Try.prog.godebug = none := by kernel_rfl
theorem laidOut : laidOutB Try.prog = true := by kernel_rfl
set_option linter.unusedVariables false in
set_option maxRecDepth 100000 in
theorem lifted (os : Os) (started : os.Started) (H : Type) (enc : TypeId × Value → H) :
    ReturnsInHanded {} Try.checked os 10 .any (Rows.recordPartsSpec.pre6 enc Try.prog Try.f10 Rows.recordPartsRow.domain false) (Rows.recordPartsSpec.post enc Try.prog Try.f10 false true false false) := by
  refine returnsInHanded_of_change_sized (C := Try.checked) own started (by kernel_rfl) Try.func10
    (ChangeSpec.witness6 (enc := enc) (C := Try.checked) false ⟨#[], #[.slice none 0 0, .slice none 0 0, .int .i64 0], []⟩ 8 (by kernel_rfl) (by kernel_rfl) (by kernel_rfl) (by kernel_rfl)) ?_
  intro W base args ds gs before hval0 hW hcnd hsz _
  have hval : ∀ (j : Nat) t v, Try.f10.params[j]? = some t → args[j]? = some v → Value.okWide Try.prog W .any base t v := hval0
  have hW' := hW
  obtain ⟨p, q, hA0, hV, rfl, hfz, hnd⟩ := hW'
  have hA : DataW.TrodAll enc Try.prog W 0 (fun _ => true) true Try.f10.params.toList args.toList ds p := hA0
  rw [Try.params10] at hA hval
  obtain ⟨v0, vs0, d0, ds0, p0, q0, hargs, rfl, rfl, h0, r0⟩ := trodAll_cons hA
  obtain ⟨v1, vs1, d1, ds1, p1, q1, rfl, rfl, rfl, h1, r1⟩ := trodAll_cons r0
  obtain ⟨v2, vs2, d2, ds2, p2, q2, rfl, rfl, rfl, h2, r2⟩ := trodAll_cons r1
  obtain ⟨rfl, rfl, rfl⟩ := trodAll_nil r2
  obtain rfl : args = #[v0, v1, v2] := by cases args; simp_all
  obtain ⟨rfl, rfl⟩ := trodVars_none hV
  have k0 := h0
  have lt0 : ∀ x ∈ p0, x.block < W.heap.size := by obtain ⟨m, hm⟩ := k0; exact DataW.trod_lt m _ _ _ hm
  obtain ⟨a0, len0, cap0, rfl⟩ := okWide_slice Try.underlying39 (hval 0 39 v0 rfl rfl)
  obtain ⟨l0, w0⟩ : ∃ l, Recs W (.slice a0 len0 cap0) l := by
    obtain ⟨fuel, hf⟩ := h0
    obtain ⟨v, l, hcs, hb⟩ := recs_of_raw hf
    simp [Value.cells] at hcs
    subst hcs
    exact ⟨l, hb⟩
  have sz0 : len0 * 56 ≤ 140737488351232 := by obtain ⟨fuel, hf⟩ := h0; exact reach_of_raw (P := Try.prog) (x := (d0, p0)) (j := 0) hsz (by rw [Try.params10]; rfl) rfl Try.underlying39 (by kernel_rfl) hf
  have k1 := h1
  have lt1 : ∀ x ∈ p1, x.block < W.heap.size := by obtain ⟨m, hm⟩ := k1; exact DataW.trod_lt m _ _ _ hm
  obtain ⟨a1, len1, cap1, rfl⟩ := okWide_slice Try.underlying39 (hval 1 39 v1 rfl rfl)
  obtain ⟨l1, w1⟩ : ∃ l, Recs W (.slice a1 len1 cap1) l := by
    obtain ⟨fuel, hf⟩ := h1
    obtain ⟨v, l, hcs, hb⟩ := recs_of_raw hf
    simp [Value.cells] at hcs
    subst hcs
    exact ⟨l, hb⟩
  have sz1 : len1 * 56 ≤ 140737488351232 := by obtain ⟨fuel, hf⟩ := h1; exact reach_of_raw (P := Try.prog) (x := (d1, p1)) (j := 1) hsz (by rw [Try.params10]; rfl) rfl Try.underlying39 (by kernel_rfl) hf
  have k2 := h2
  have lt2 : ∀ x ∈ p2, x.block < W.heap.size := by obtain ⟨m, hm⟩ := k2; exact DataW.trod_lt m _ _ _ hm
  obtain ⟨a2, rfl, _, _, w2⟩ := open_int Try.underlying3 (hval 2 3 v2 rfl rfl) h2
  clear hA0 hval0
  refine (recordParts_walk _ _ l0 l1 a2 W w0 w1).mono fun e W' ⟨he, bel⟩ => ?_
  subst he
  exact ⟨_, rfl, _, _, _, [], _, [], hW, trodAll_mk1 (shut_bool Try.underlying4 _), (trodAll_cons_mk (Below.trod laidOut (by kernel_rfl) (of_decide_eq_true (by kernel_rfl)) k0 bel lt0) (trodAll_cons_mk (Below.trod laidOut (by kernel_rfl) (of_decide_eq_true (by kernel_rfl)) k1 bel lt1) (trodAll_cons_mk (Below.trod laidOut (by kernel_rfl) (of_decide_eq_true (by kernel_rfl)) k2 bel lt2) trodAll_mk0))), rfl, bel.frame _, fun h => by cases h⟩
theorem over : Rows.recordPartsRow.holds Try.pinned (OpenSpec.ofChange Rows.recordPartsSpec) :=
  OpenClaim.holds_of_wide 10 Try.f10 rfl rfl rfl rfl rfl rfl rfl ⟨rfl, rfl, rfl, rfl, rfl⟩ rfl rfl rfl rfl rfl (by kernel_rfl) Try.func10 (by kernel_rfl)
    (of_decide_eq_true (by kernel_rfl)) (by unfold Func.isWrapper; first | (rw [if_pos (by decide +kernel)]; kernel_rfl) | (rw [if_neg (by decide +kernel)]; exact ⟨rfl, rfl⟩))
    (fun os started H enc _ => lifted os started H enc)
theorem proved : Rows.RecordPartsSaid := over
end recordParts
end Go.Proofs.Ytjflbjlpibekhaa
