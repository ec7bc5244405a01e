/-
  Layer 3, the document's own answer: what so many have.
-/
import Derived.Test.YthafmjckkobfcabVecQ
namespace Go.Proofs.Ythafmjckkobfcab
open Go.RowKit

/-- How many of these have so much. -/
theorem many_snoc (l : List Int) (x n : Int) : Vec.many (l ++ [x]) n = Vec.many l n + (if n ≤ x then 1 else 0) := by
  unfold Vec.many
  rw [List.countP_append]
  simp [List.countP_cons]

set_option maxRecDepth 100000 in
set_option maxHeartbeats 2000000 in
theorem have_any (v : Value) (ls : List (List Int)) (k : Nat) (n : Int) (w : World) (hv : IRows w v ls) (hlong : ∀ r ∈ ls, k < r.length) :
    Calls Try.prog 65 #[v, .int .i64 (k : Int), .int .i64 n] w fun e w' => e = .returned (.int .i64 (Vec.many (column ls k) n : Nat)) ∧ w = w' := by
  have HL := Lib.hid hv
  obtain ⟨a, cap, rfl, hcap, hmax, _⟩ := hv.open
  unfold maxLen at hmax
  clear hv
  have HG := Lib.hid hlong
  clear hlong
  go_enter Try.func65, Try.ntmps65
  go_wp2_with fail
  go_loop [7, 8] (fun s i => ∃ j : Nat, j ≤ ls.length ∧ i = .int .i64 j ∧ ∃ c : Nat, s = .int .i64 (c : Int) ∧ c ≤ j ∧ Hid (c = Vec.many ((column ls k).take j) n)) (fun _ i => ls.length - (intOf i).toNat)
  case atStart => exact ⟨0, by omega, rfl, 0, rfl, by omega, by simp [Hid, Vec.many]⟩
  case round =>
    obtain ⟨j, hj, rfl, c, rfl, hcj, hc⟩ := hrel
    by_cases hlt : j < ls.length
    · have hkl := HG.out _ (List.getElem_mem hlt)
      obtain ⟨a2, cap2, e2, _, _, hrow⟩ := HL.out.open
      obtain ⟨b, off, x, rfl, hcx, hix⟩ := hrow j hlt
      injection e2 with e3 e4 e5
      subst e3
      obtain ⟨ax, capx, rfl, hcapx, hmaxx, _, hnum⟩ := hix.open
      obtain ⟨bx, offx, rfl, hcn⟩ := hnum k hkl
      unfold maxLen at hmaxx
      have HS := Lib.hid (column_take_succ ls k j hlt hkl)
      clear hrow hnum hix e4 e5
      by_cases hge : n ≤ ls[j][k]
      · have HC := Lib.hid (show c + 1 = Vec.many ((column ls k).take (j + 1)) n by rw [HS.out, many_snoc, if_pos hge, hc.out])
        go_wp2
        go_round
        case rel => exact ⟨j + 1, by omega, by go_num, c + 1, by go_num, by omega, HC⟩
        case measure => simp [intOf]; omega
      · have HC := Lib.hid (show c = Vec.many ((column ls k).take (j + 1)) n by rw [HS.out, many_snoc, if_neg hge, hc.out]; omega)
        go_wp2
        go_round
        case rel => exact ⟨j + 1, by omega, by go_num, c, rfl, by omega, HC⟩
        case measure => simp [intOf]; omega
    · have hs := Lib.hid (show c = Vec.many (column ls k) n by rw [hc.out, List.take_of_length_le (by simp; omega)])
      go_wp2
      go_ret
      exact ⟨by rw [← hs.out]; rfl, rfl⟩

/-- The best of the first j. -/
def bestOf (xs : List Int) (need : Int) (j : Nat) : Int := (xs.take j).foldl (Vec.quorumStep xs need) 0
theorem best_succ (xs : List Int) (need : Int) (j : Nat) (hj : j < xs.length) : bestOf xs need (j + 1) = Vec.quorumStep xs need (bestOf xs need j) xs[j] := by
  unfold bestOf
  rw [take_succ_getD xs j hj, List.foldl_append]
  rfl
theorem best_all (xs : List Int) (need : Int) : bestOf xs need xs.length = Vec.quorumNum xs need := by
  unfold bestOf Vec.quorumNum
  rw [List.take_length]
theorem best_bound (xs : List Int) (need : Int) (h : ∀ x ∈ xs, 0 ≤ x ∧ x ≤ 1099511627776) (j : Nat) : 0 ≤ bestOf xs need j ∧ bestOf xs need j ≤ 1099511627776 := by
  unfold bestOf
  have key : ∀ (l : List Int) (b : Int), (0 ≤ b ∧ b ≤ 1099511627776) → (∀ x ∈ l, 0 ≤ x ∧ x ≤ 1099511627776) → 0 ≤ l.foldl (Vec.quorumStep xs need) b ∧ l.foldl (Vec.quorumStep xs need) b ≤ 1099511627776 := by
    intro l
    induction l with
    | nil => intro b hb _; exact hb
    | cons x l ih =>
      intro b hb hl
      rw [List.foldl_cons]
      refine ih _ ?_ (fun y hy => hl y (by simp [hy]))
      unfold Vec.quorumStep
      split
      · exact hl x (by simp)
      · exact hb
  exact key _ 0 (by omega) (fun x hx => h x (List.mem_of_mem_take hx))

set_option maxRecDepth 100000 in
set_option maxHeartbeats 4000000 in
theorem refQuorum_any (v : Value) (ls : List (List Int)) (need : Int) (w : World) (hv : IRows w v ls) (hlen : ls.length ≤ 1000000) :
    Calls Try.prog 39 #[v, .int .i64 need] w (GivesInts w (orNone (quorOk ls need) (quor ls need)) (quorOk ls need)) := by
  have HL := Lib.hid hv
  obtain ⟨a, cap, rfl, hcap, hmax, _⟩ := hv.open
  unfold maxLen at hmax
  clear hv
  by_cases h0 : ls.length = 0
  · have h0' : ((ls.length : Int) == 0) = true := by rw [h0]; rfl
    rw [quorOk_need (by omega)]
    have H0 := Lib.hid h0
    clear h0
    go_enter Try.func39, Try.ntmps39
    go_wp2
    go_ret2
    exact ⟨_, rfl, ints_none _, Ext.refl _⟩
  · have h0' : ((ls.length : Int) == 0) = false := by rw [beq_eq_false_iff_ne]; omega
    by_cases h1 : need < 1
    · rw [quorOk_need (by omega)]
      go_enter Try.func39, Try.ntmps39
      go_wp2
      go_ret2
      exact ⟨_, rfl, ints_none _, Ext.refl _⟩
    · by_cases h2 : (ls.length : Int) < need
      · rw [quorOk_need (by omega)]
        go_enter Try.func39, Try.ntmps39
        go_wp2
        go_ret2
        exact ⟨_, rfl, ints_none _, Ext.refl _⟩
      · obtain ⟨nd, rfl⟩ : ∃ nd : Nat, need = (nd : Int) := ⟨need.toNat, by omega⟩
        have d1 : decide ((nd : Int) < 1) = false := decide_eq_false (by omega)
        have d2 : decide ((ls.length : Int) < (nd : Int)) = false := decide_eq_false (by omega)
        have d2' : decide (ls.length < nd) = false := decide_eq_false (by omega)
        have d3 : decide (nd < 1) = false := decide_eq_false (by omega)
        go_enter Try.func39, Try.ntmps39
        go_wp2_with fail
        go_loopw [6] (fun i wr => ∃ k : Nat, k ≤ ls.length ∧ i = .int .i64 k ∧ Hid ((ls.take k).all (fun r => Vec.kind r (firstRow ls)) = true) ∧ Ext w wr) (fun i _ => ls.length - (intOf i).toNat)
        case atStart => exact ⟨0, by omega, rfl, by simp [Hid], Ext.refl _⟩
        case round =>
          obtain ⟨k, hk, rfl, hr, hE⟩ := hrel
          by_cases hlt : k < ls.length
          · obtain ⟨a2, cap2, e2, _, _, hrow⟩ := ((HL.out.below hE).below (Ext.drew wr)).open
            obtain ⟨b, off, x, rfl, hcx, hix⟩ := hrow k hlt
            obtain ⟨b', off', x0, e6, hcx0, hix0⟩ := hrow 0 (by omega)
            injection e2 with e3 e4 e5
            subst e3
            injection e6 with e6
            injection e6 with e7 e8
            subst e7 e8
            rw [Nat.add_zero] at hcx0
            have hk0 := headD_eq (ls := ls) (by omega)
            obtain ⟨ax, nx, cx, rfl⟩ := hix.isSlice
            obtain ⟨ax0, nx0, cx0, rfl⟩ := hix0.isSlice
            have hcall := refKind_any _ _ _ _ _ hix hix0
            rw [← hk0] at hcall
            have HC := Lib.hid hcall
            clear hcall hrow e4 e5 hk0 hix hix0
            cases hb : Vec.kind ls[k] (firstRow ls) with
            | true =>
              have HB := Lib.hid hb
              clear hb
              go_wp2_with fail
              go_region_with (go_at_call 55; refine HC.out.mono ?_; rintro e w' ⟨rfl, rfl⟩; rw [HB.out])
              all_goals
                go_wp2_with fail
                go_roundw
                case rel => exact ⟨k + 1, by omega, by go_num, by unfold Hid; rw [take_succ_getD ls k hlt, List.all_append, hr.out]; simp [HB.out], hE.trans (Ext.drew _)⟩
                case measure => simp [intOf]; omega
            | false =>
              have HB := Lib.hid hb
              have HQ := Lib.hid (quorOk_kind (need := (nd : Int)) k hlt hb)
              clear hb
              go_wp2_with fail
              go_region_with (go_at_call 55; refine HC.out.mono ?_; rintro e w' ⟨rfl, rfl⟩; rw [HB.out])
              all_goals
                go_wp2_with fail
                go_ret2
                exact ⟨_, by rw [HQ.out]; rfl, by rw [HQ.out]; exact ints_none _, hE.trans (Ext.drew _)⟩
          · obtain rfl : k = ls.length := by omega
            have hok := quorOk_all (need := (nd : Int)) ⟨by omega, by omega⟩ hr.out
            have hne : 0 < ls.length := by omega
            have HNE := Lib.hid hne
            have hk0 := headD_eq hne
            have HK := Lib.hid hr.out
            have HOK := Lib.hid hok
            have HK0 := Lib.hid hk0
            clear hr hok hk0
            go_wp2_with fail
            go_loopw [7, 8, 9, 10] (fun o i _ _ wx => ∃ k : Nat, k ≤ rowLen ls ∧ i = .int .i64 k ∧ wx.ownsRow w.heap.size 3 1 o k (i64s ((quor ls nd).take k)) ∧ Ext w wx) (fun _ i _ _ _ => rowLen ls - (intOf i).toNat)
            case atStart => exact ⟨0, by omega, rfl, World.ownsRow_nil _ _ _ _, hE⟩
            case round =>
              obtain ⟨k, hk, rfl, ho, hE2⟩ := hrel
              obtain ⟨a2, cap2, e2, _, _, hrow⟩ := (HL.out.below hE2).open
              obtain ⟨b', off', x0, rfl, hcx0, hix0⟩ := hrow 0 HNE.out
              injection e2 with e3 e4 e5
              subst e3
              rw [Nat.add_zero] at hcx0
              rw [← HK0.out] at hix0
              obtain ⟨ax0, nx0, cx0, rfl⟩ := hix0.isSlice
              have hnx := hix0.len.1
              have hrl : rowLen ls = nx0 := hnx.symm
              have HRL := Lib.hid hrl
              have hall : ∀ r ∈ ls, Vec.kind r (firstRow ls) = true := fun r hr => (List.all_eq_true.1 HK.out) r (by rw [List.take_length]; exact hr)
              have hn8 : nx0 ≤ 8 := by
                have := Vec.right_ok (Vec.kind_ok (hall _ (List.getElem_mem HNE.out))).2.1
                unfold rowLen at hrl
                omega
              have HALL := Lib.hid hall
              have hkn : k ≤ nx0 := by rw [← hrl]; exact hk
              have HQL := Lib.hid (quor_length ls nd)
              clear hrow e4 e5 hix0 hnx hall hrl hk
              by_cases hlt2 : k < nx0
              · have hlong : ∀ r ∈ ls, k < r.length := fun r hr => by
                  rw [(Vec.kind_ok (HALL.out r hr)).2.2, show (firstRow ls).length = nx0 from HRL.out]; exact hlt2
                have HG := Lib.hid hlong
                have HHAVE := Lib.hid (fun n => have_any _ ls k n wr (HL.out.below hE2) hlong)
                clear hlong
                go_wp2_with fail
                go_loop [9, 10] (fun bst i => ∃ j : Nat, j ≤ ls.length ∧ i = .int .i64 j ∧ ∃ y : Int, bst = .int .i64 y ∧ Hid (y = bestOf (column ls k) nd j)) (fun _ i => ls.length - (intOf i).toNat)
                case atStart => exact ⟨0, by omega, rfl, 0, rfl, by simp [Hid, bestOf]⟩
                case round =>
                  obtain ⟨j, hj, rfl, y, rfl, hy⟩ := hrel
                  by_cases hlt3 : j < ls.length
                  · have hkl := HG.out _ (List.getElem_mem hlt3)
                    obtain ⟨a2, cap2, e2, _, _, hrow⟩ := (HL.out.below hE2).open
                    obtain ⟨b2, off2, x, e6, hcx, hix⟩ := hrow j hlt3
                    injection e2 with e2 e10 e11
                    subst e2
                    clear e10 e11
                    injection e6 with e6
                    injection e6 with e7 e8
                    subst e7 e8
                    obtain ⟨ax, capx, rfl, hcapx, hmaxx, _, hnum⟩ := hix.open
                    obtain ⟨bx, offx, rfl, hcn⟩ := hnum k hkl
                    unfold maxLen at hmaxx
                    have hxs : (column ls k)[j]'(by simpa using hlt3) = ls[j][k] := by simp [column, hkl]
                    have hst := best_succ (column ls k) nd j (by simpa using hlt3)
                    rw [hxs, ← hy.out] at hst
                    have HH := Lib.hid (HHAVE.out ls[j][k])
                    obtain ⟨c, hc⟩ : ∃ c : Nat, Vec.many (column ls k) ls[j][k] = c := ⟨_, rfl⟩
                    unfold Vec.quorumStep at hst
                    rw [hc] at hst HH
                    have HST := Lib.hid hst
                    clear hrow hnum hix hxs hst hc
                    by_cases p1 : y < ls[j][k]
                    · by_cases p2 : (nd : Int) ≤ (c : Int)
                      · have HN2 := Lib.hid (show ls[j][k] = bestOf (column ls k) nd (j + 1) by rw [HST.out, if_pos ⟨p1, p2⟩])
                        go_wp2_with fail
                        refine HH.out.mono ?_
                        rintro e w5 ⟨rfl, rfl⟩
                        go_wp2_with fail
                        go_round
                        case rel => exact ⟨j + 1, by omega, by go_num, _, rfl, HN2⟩
                        case measure => simp [intOf]; omega
                      · have HN2 := Lib.hid (show y = bestOf (column ls k) nd (j + 1) by rw [HST.out, if_neg (fun h => p2 h.2)])
                        go_wp2_with fail
                        refine HH.out.mono ?_
                        rintro e w5 ⟨rfl, rfl⟩
                        go_wp2_with fail
                        go_round
                        case rel => exact ⟨j + 1, by omega, by go_num, _, rfl, HN2⟩
                        case measure => simp [intOf]; omega
                    · have HN2 := Lib.hid (show y = bestOf (column ls k) nd (j + 1) by rw [HST.out, if_neg (fun h => p1 h.1)])
                      go_wp2_with fail
                      go_round
                      case rel => exact ⟨j + 1, by omega, by go_num, _, rfl, HN2⟩
                      case measure => simp [intOf]; omega
                  · have hy2 : y = Vec.quorumNum (column ls k) nd := by
                      rw [hy.out, ← best_all]
                      congr 1
                      simp
                      omega
                    have hkq : k < (quor ls nd).length := by rw [HQL.out, HRL.out]; exact hlt2
                    have HX := Lib.hid (show i64s ((quor ls nd).take k) ++ i64s [y] = i64s ((quor ls nd).take (k + 1)) by
                      rw [← i64s_append, take_succ_getD _ k hkq, quor_get _ _ k hkq, hy2])
                    have hone := i64s_one [y]
                    have hsz := hE2.size
                    clear hy2 hkq hy
                    go_wp2_with (at_builtin; refine wpList_app rfl (.tmp 83) (.tmp 85) tI rfl (base := w.heap.size) (n := k) (xs := i64s ((quor ls nd).take k)) (ys := i64s [y]) rfl rfl (ho.alloc _) (Ints.one _ _) hone ?c3 ?c4 ?c5 ?_; rotate_right; intro v2 w2 hown2 hg2)
                    case c3 => (try simp only [i64s_length, List.length_cons, List.length_nil]); (try unfold maxLen); omega
                    case c4 => (try simp only [i64s_length, List.length_cons, List.length_nil]); omega
                    case c5 => first | (show _ ≤ (wr.alloc _).heap.size; rw [World.size_alloc]; omega) | omega
                    go_roundw
                    case rel =>
                      rw [HX.out] at hown2
                      exact ⟨k + 1, by rw [HRL.out]; omega, by go_num, by simpa using hown2, (Below.alloc hE2 hsz _).grown hg2 (by show _ ≤ (wr.alloc _).heap.size; rw [World.size_alloc]; omega) (fun j hj => (ho.lt j hj).1)⟩
                    case measure => rw [HRL.out]; simp [intOf]; omega
              · have hs := Lib.hid (show (quor ls nd).take k = quor ls nd from List.take_of_length_le (by rw [HQL.out, HRL.out]; omega))
                have hI : Ints wr u7 (quor ls nd) := by
                  have h := ho
                  rw [hs.out] at h
                  exact Sl.ofOwn h
                have HI := Lib.hid hI
                clear hI
                go_wp2
                go_ret2
                exact ⟨_, by rw [HOK.out]; rfl, by rw [HOK.out]; exact HI.out, hE2⟩
end Go.Proofs.Ythafmjckkobfcab
