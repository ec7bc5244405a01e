/-
  RecordTags: which tags any record has, which records of any row have a tag, and which are the same, is what the document says: for every input the statement's function returns true, and leaves what came in as it was.
-/
import Derived.Test.YtjflbjlpibekhaaRecRaw
import Derived.Test.YtjflbjlpibekhaaRecEnc
namespace Go.Proofs.Ytjflbjlpibekhaa
set_option maxRecDepth 100000
open Go.ChangeShapes Go.WideShapes Go.ChangeAt Go.RowKit

set_option maxHeartbeats 8000000 in
theorem recordTags_walk (v u : Value) (l : List Rec.R) (tag : Int) (r : Rec.R) (W : World) (hv : Recs W v l) (hu : IsRec W u r) (hlen : l.length ≤ 10000000000000) :
    Calls Try.prog 7 #[v, .int .i64 tag, u] W fun e W' => e = .returned (.bool true) ∧ Below W.heap.size W W' := by
  have hbx := box_rec
  have HV := Lib.hid hv
  have HU := Lib.hid hu
  obtain ⟨a, cap, rfl, hcap, hmax, _, _⟩ := hv
  obtain ⟨a2, m2, c2, rfl⟩ := hu.shape
  unfold maxLen at hmax
  clear hu
  have hE0 : Ext W (W.alloc (.cells #[.int .i64 r.client, .int .i64 r.number, .slice a2 m2 c2, .string ⟨r.data.toArray⟩] 26)) := Ext.alloc _ _
  have HR0 := Lib.hid (RecAt.new W (.slice a2 m2 c2) r)
  have same1 : ∀ l : List Int, (l == l) = true := fun l => by simp
  go_enter Try.func7, Try.ntmps7
  go_wp2_with fail
  generalize hw0 : W.alloc (.cells #[.int .i64 r.client, .int .i64 r.number, .slice a2 m2 c2, .string ⟨r.data.toArray⟩] 26) = w0 at *
  clear hw0
  generalize hh0 : W.heap.size = h0 at *
  have HH0 := Lib.hid hh0
  clear hh0
  go_loopw [8, 11] (fun _ i wr => ∃ k : Nat, k ≤ l.length ∧ i = .int .i64 k ∧ Ext w0 wr) (fun _ i _ => l.length - (intOf i).toNat)
  case atStart => exact ⟨0, by omega, rfl, Ext.refl _⟩
  case round =>
    obtain ⟨k, hk, rfl, hE⟩ := hrel
    by_cases hlt : k < l.length
    · obtain ⟨a', cap', e', _, _, _, hc⟩ := HV.out.below (hE0.trans hE)
      obtain ⟨b, off, rfl, t, p0, p1, p2, p3, ht⟩ := hc k hlt
      injection e' with e1 e2 e3
      subst e1
      obtain ⟨a3, m3, rfl, hcap3, hmax3, _, _⟩ := ht.open
      have hE2 : Ext wr (wr.alloc (.cells #[.int .i64 l[k].client, .int .i64 l[k].number, .slice a3 l[k].tags.length m3, .string ⟨l[k].data.toArray⟩] 26)) := Ext.alloc _ _
      have HX := Lib.hid (RecAt.new wr (.slice a3 l[k].tags.length m3) l[k])
      have HI := Lib.hid (IsRec.below (show IsRec wr (.agg #[.int .i64 l[k].client, .int .i64 l[k].number, .slice a3 l[k].tags.length m3, .string ⟨l[k].data.toArray⟩]) l[k] from ⟨_, rfl, ht⟩) hE2)
      have HRW := Lib.hid ((HR0.out.ext hE).ext hE2)
      have HUW := Lib.hid (HU.out.below ((hE0.trans hE).trans hE2))
      generalize l[k] = X at *
      obtain ⟨c, n, ts, d⟩ := X
      clear hc e2 e3 ht
      simp only at *
      obtain ⟨H, hH⟩ : ∃ H, Rec.has ⟨c, n, ts, d⟩ tag = H := ⟨_, rfl⟩
      obtain ⟨S, hS⟩ : ∃ S, Rec.same ⟨c, n, ts, d⟩ r = S := ⟨_, rfl⟩
      have HH := Lib.hid hH
      have HS := Lib.hid hS
      have HT := Lib.hid (Rec.same_self ⟨c, n, ts, d⟩)
      clear hH hS
      go_wp2_with fail
      generalize hw1 : wr.alloc (.cells #[.int .i64 c, .int .i64 n, .slice a3 ts.length m3, .string ⟨d.toArray⟩] 26) = w1 at *
      generalize hh1 : wr.heap.size = h1 at *
      clear hw1
      refine wp_region_facts (by kernel_rfl) Ext (fun iop v w => match iop with
          | 0 => v = .agg #[.int .i64 c, .int .i64 n, .slice a3 ts.length m3, .string ⟨d.toArray⟩]
          | 1 => v = .int .i64 tag
          | 2 => v = .bool H
          | 3 => v = .agg #[.int .i64 c, .int .i64 n, .slice a3 ts.length m3, .string ⟨d.toArray⟩]
          | 4 => v = .int .i64 tag
          | 5 => v = .bool H
          | 6 => v = .bool false
          | 7 => v = .bool false
          | 8 => v = .agg #[.int .i64 c, .int .i64 n, .slice a3 ts.length m3, .string ⟨d.toArray⟩]
          | 9 => v = .agg #[.int .i64 r.client, .int .i64 r.number, .slice a2 m2 c2, .string ⟨r.data.toArray⟩]
          | 10 => v = .bool S
          | 11 => v = .agg #[.int .i64 c, .int .i64 n, .slice a3 ts.length m3, .string ⟨d.toArray⟩]
          | 12 => v = .agg #[.int .i64 r.client, .int .i64 r.number, .slice a2 m2 c2, .string ⟨r.data.toArray⟩]
          | 13 => v = .bool S
          | 14 => v = .bool false
          | 15 => v = .bool false
          | 16 => v = .bool false
          | 17 => v = .agg #[.int .i64 c, .int .i64 n, .slice a3 ts.length m3, .string ⟨d.toArray⟩]
          | 18 => v = .agg #[.int .i64 c, .int .i64 n, .slice a3 ts.length m3, .string ⟨d.toArray⟩]
          | 19 => v = .bool true
          | 20 => v = .bool false
          | _ => v = .bool false
          ) (by kernel_rfl) (fun _ _ _ h k => Ext.trans h k) (fun a => Ext.refl a) (Ext.drew _) ?_ ?_ ?_
      · intro iop v wa wb hF hL
        cases iop with
        | zero => exact hF
        | succ iop =>
          cases iop with
          | zero => exact hF
          | succ iop =>
            cases iop with
            | zero => exact hF
            | succ iop =>
              cases iop with
              | zero => exact hF
              | succ iop =>
                cases iop with
                | zero => exact hF
                | succ iop =>
                  cases iop with
                  | zero => exact hF
                  | succ iop =>
                    cases iop with
                    | zero => exact hF
                    | succ iop =>
                      cases iop with
                      | zero => exact hF
                      | succ iop =>
                        cases iop with
                        | zero => exact hF
                        | succ iop =>
                          cases iop with
                          | zero => exact hF
                          | succ iop =>
                            cases iop with
                            | zero => exact hF
                            | succ iop =>
                              cases iop with
                              | zero => exact hF
                              | succ iop =>
                                cases iop with
                                | zero => exact hF
                                | succ iop =>
                                  cases iop with
                                  | zero => exact hF
                                  | succ iop =>
                                    cases iop with
                                    | zero => exact hF
                                    | succ iop =>
                                      cases iop with
                                      | zero => exact hF
                                      | succ iop =>
                                        cases iop with
                                        | zero => exact hF
                                        | succ iop =>
                                          cases iop with
                                          | zero => exact hF
                                          | succ iop =>
                                            cases iop with
                                            | zero => exact hF
                                            | succ iop =>
                                              cases iop with
                                              | zero => exact hF
                                              | succ iop =>
                                                cases iop with
                                                | zero => exact hF
                                                | succ iop =>
                                                  exact hF
      · refine Obls.cons ?_ (Obls.cons ?_ (Obls.cons ?_ (Obls.cons ?_ (Obls.cons ?_ (Obls.cons ?_ (Obls.cons ?_ (Obls.cons ?_ (Obls.cons ?_ (Obls.cons ?_ (Obls.cons ?_ (Obls.cons ?_ (Obls.cons ?_ (Obls.cons ?_ (Obls.cons ?_ (Obls.cons ?_ (Obls.cons ?_ (Obls.cons ?_ (Obls.cons ?_ (Obls.cons ?_ (Obls.cons ?_ (Obls.cons ?_ (Obls.nil))))))))))))))))))))))
        · intro ev wy hp hl hk hd
          have e8 : ev (.tmp 8) = .pointer (some ⟨h1, 0, none⟩) := hk 8 (by decide)
          clear hk
          clear hd
          exact Yield.ld rfl e8 (ld_rec (r := ⟨c, n, ts, d⟩) (HX.out.ext hl)) ⟨Ext.refl _, rfl⟩
        · intro ev wy hp hl hk hd
          have e1 : ev (.tmp 1) = .int .i64 tag := hk 1 (by decide)
          clear hk
          clear hd
          exact Yield.mv rfl ⟨Ext.refl _, e1⟩
        · intro ev wy hp hl hk hd
          have e15 : ev (.tmp 15) = .agg #[.int .i64 c, .int .i64 n, .slice a3 ts.length m3, .string ⟨d.toArray⟩] := hk 15 (by decide)
          have e16 : ev (.tmp 16) = .int .i64 tag := hk 16 (by decide)
          clear hk
          clear hd
          refine Yield.call rfl hp Try.func19 rfl (by kernel_rfl) ?_
          simp only [List.map_toArray, List.map_cons, List.map_nil, e15, e16]
          exact ((HH.out ▸ has4_any _ ⟨c, n, ts, d⟩ tag wy (HI.out.below hl))).mono fun _ _ ⟨he, hb⟩ => ⟨_, he, hb, by first | rfl | simp⟩
        · intro ev wy hp hl hk hd
          have e8 : ev (.tmp 8) = .pointer (some ⟨h1, 0, none⟩) := hk 8 (by decide)
          clear hk
          clear hd
          exact Yield.ld rfl e8 (ld_rec (r := ⟨c, n, ts, d⟩) (HX.out.ext hl)) ⟨Ext.refl _, rfl⟩
        · intro ev wy hp hl hk hd
          have e1 : ev (.tmp 1) = .int .i64 tag := hk 1 (by decide)
          clear hk
          clear hd
          exact Yield.mv rfl ⟨Ext.refl _, e1⟩
        · intro ev wy hp hl hk hd
          have e18 : ev (.tmp 18) = .agg #[.int .i64 c, .int .i64 n, .slice a3 ts.length m3, .string ⟨d.toArray⟩] := hk 18 (by decide)
          have e19 : ev (.tmp 19) = .int .i64 tag := hk 19 (by decide)
          clear hk
          clear hd
          refine Yield.call rfl hp Try.func20 rfl (by kernel_rfl) ?_
          simp only [List.map_toArray, List.map_cons, List.map_nil, e18, e19]
          exact ((HH.out ▸ refHas4_any _ ⟨c, n, ts, d⟩ tag wy (HI.out.below hl))).mono fun _ _ ⟨he, hb⟩ => ⟨_, he, hb, by first | rfl | simp⟩
        · intro ev wy hp hl hk hd
          have e17 : ev (.tmp 17) = .bool H := hk 17 (by decide)
          have e20 : ev (.tmp 20) = .bool H := hk 20 (by decide)
          clear hk
          clear hd
          exact Yield.op (v := .bool false) (w' := wy) (by simp [execOp, go_sem, e17, e20]) ⟨Ext.refl _, rfl⟩
        · intro ev wy hp hl hk hd
          have e21 : ev (.tmp 21) = .bool false := hk 21 (by decide)
          clear hk
          clear hd
          exact Yield.mv rfl ⟨Ext.refl _, e21⟩
        · intro ev wy hp hl hk hd
          have e8 : ev (.tmp 8) = .pointer (some ⟨h1, 0, none⟩) := hk 8 (by decide)
          clear hk
          refine ⟨fun _ _ _ => ?_, fun _ hx hne => absurd hx hne⟩
          clear hd
          exact Yield.ld rfl e8 (ld_rec (r := ⟨c, n, ts, d⟩) (HX.out.ext hl)) ⟨Ext.refl _, rfl⟩
        · intro ev wy hp hl hk hd
          have e5 : ev (.tmp 5) = .pointer (some ⟨h0, 0, none⟩) := hk 5 (by decide)
          clear hk
          refine ⟨fun _ _ _ => ?_, fun _ hx hne => absurd hx hne⟩
          clear hd
          exact Yield.ld rfl e5 (ld_rec (HRW.out.ext hl)) ⟨Ext.refl _, rfl⟩
        · intro ev wy hp hl hk hd
          have e23 : ev (.tmp 23) = .agg #[.int .i64 c, .int .i64 n, .slice a3 ts.length m3, .string ⟨d.toArray⟩] := hk 23 (by decide)
          have e24 : ev (.tmp 24) = .agg #[.int .i64 r.client, .int .i64 r.number, .slice a2 m2 c2, .string ⟨r.data.toArray⟩] := hk 24 (by decide)
          clear hk
          refine ⟨fun _ _ _ => ?_, fun _ hx hne => absurd hx hne⟩
          clear hd
          refine Yield.call rfl hp Try.func21 rfl (by kernel_rfl) ?_
          simp only [List.map_toArray, List.map_cons, List.map_nil, e23, e24]
          exact ((HS.out ▸ same4_any _ _ ⟨c, n, ts, d⟩ r wy (HI.out.below hl) (HUW.out.below hl))).mono fun _ _ ⟨he, hb⟩ => ⟨_, he, hb, by first | rfl | simp⟩
        · intro ev wy hp hl hk hd
          have e8 : ev (.tmp 8) = .pointer (some ⟨h1, 0, none⟩) := hk 8 (by decide)
          clear hk
          refine ⟨fun _ _ _ => ?_, fun _ hx hne => absurd hx hne⟩
          clear hd
          exact Yield.ld rfl e8 (ld_rec (r := ⟨c, n, ts, d⟩) (HX.out.ext hl)) ⟨Ext.refl _, rfl⟩
        · intro ev wy hp hl hk hd
          have e5 : ev (.tmp 5) = .pointer (some ⟨h0, 0, none⟩) := hk 5 (by decide)
          clear hk
          refine ⟨fun _ _ _ => ?_, fun _ hx hne => absurd hx hne⟩
          clear hd
          exact Yield.ld rfl e5 (ld_rec (HRW.out.ext hl)) ⟨Ext.refl _, rfl⟩
        · intro ev wy hp hl hk hd
          have e26 : ev (.tmp 26) = .agg #[.int .i64 c, .int .i64 n, .slice a3 ts.length m3, .string ⟨d.toArray⟩] := hk 26 (by decide)
          have e27 : ev (.tmp 27) = .agg #[.int .i64 r.client, .int .i64 r.number, .slice a2 m2 c2, .string ⟨r.data.toArray⟩] := hk 27 (by decide)
          clear hk
          refine ⟨fun _ _ _ => ?_, fun _ hx hne => absurd hx hne⟩
          clear hd
          refine Yield.call rfl hp Try.func18 rfl (by kernel_rfl) ?_
          simp only [List.map_toArray, List.map_cons, List.map_nil, e26, e27]
          exact ((HS.out ▸ refSame4_any _ _ ⟨c, n, ts, d⟩ r wy (HI.out.below hl) (HUW.out.below hl))).mono fun _ _ ⟨he, hb⟩ => ⟨_, he, hb, by first | rfl | simp⟩
        · intro ev wy hp hl hk hd
          have e25 : ev (.tmp 25) = .bool S := hk 25 (by decide)
          have e28 : ev (.tmp 28) = .bool S := hk 28 (by decide)
          clear hk
          refine ⟨fun _ _ _ => ?_, fun _ hx hne => absurd hx hne⟩
          clear hd
          exact Yield.op (v := .bool false) (w' := wy) (by simp [execOp, go_sem, e25, e28]) ⟨Ext.refl _, rfl⟩
        · intro ev wy hp hl hk hd
          have e22 : ev (.tmp 22) = .bool false := hk 22 (by decide)
          have e29 : ev (.tmp 29) = .bool false := hk 29 (by decide)
          clear hk
          clear hd
          exact Yield.pick (t := false) rfl e22 ⟨Ext.refl _, e29⟩
        · intro ev wy hp hl hk hd
          have e30 : ev (.tmp 30) = .bool false := hk 30 (by decide)
          clear hk
          clear hd
          exact Yield.mv rfl ⟨Ext.refl _, e30⟩
        · intro ev wy hp hl hk hd
          have e8 : ev (.tmp 8) = .pointer (some ⟨h1, 0, none⟩) := hk 8 (by decide)
          clear hk
          refine ⟨fun _ _ _ => ?_, fun _ hx hne => absurd hx hne⟩
          clear hd
          exact Yield.ld rfl e8 (ld_rec (r := ⟨c, n, ts, d⟩) (HX.out.ext hl)) ⟨Ext.refl _, rfl⟩
        · intro ev wy hp hl hk hd
          have e8 : ev (.tmp 8) = .pointer (some ⟨h1, 0, none⟩) := hk 8 (by decide)
          clear hk
          refine ⟨fun _ _ _ => ?_, fun _ hx hne => absurd hx hne⟩
          clear hd
          exact Yield.ld rfl e8 (ld_rec (r := ⟨c, n, ts, d⟩) (HX.out.ext hl)) ⟨Ext.refl _, rfl⟩
        · intro ev wy hp hl hk hd
          have e32 : ev (.tmp 32) = .agg #[.int .i64 c, .int .i64 n, .slice a3 ts.length m3, .string ⟨d.toArray⟩] := hk 32 (by decide)
          have e33 : ev (.tmp 33) = .agg #[.int .i64 c, .int .i64 n, .slice a3 ts.length m3, .string ⟨d.toArray⟩] := hk 33 (by decide)
          clear hk
          refine ⟨fun _ _ _ => ?_, fun _ hx hne => absurd hx hne⟩
          clear hd
          refine Yield.call rfl hp Try.func21 rfl (by kernel_rfl) ?_
          simp only [List.map_toArray, List.map_cons, List.map_nil, e32, e33]
          exact ((HT.out ▸ same4_any _ _ ⟨c, n, ts, d⟩ ⟨c, n, ts, d⟩ wy (HI.out.below hl) (HI.out.below hl))).mono fun _ _ ⟨he, hb⟩ => ⟨_, he, hb, by first | rfl | simp⟩
        · intro ev wy hp hl hk hd
          have e34 : ev (.tmp 34) = .bool true := hk 34 (by decide)
          clear hk
          refine ⟨fun _ _ _ => ?_, fun _ hx hne => absurd hx hne⟩
          clear hd
          exact Yield.op (v := .bool false) (w' := wy) (by simp [execOp, go_sem, e34]) ⟨Ext.refl _, rfl⟩
        · intro ev wy hp hl hk hd
          have e31 : ev (.tmp 31) = .bool false := hk 31 (by decide)
          have e35 : ev (.tmp 35) = .bool false := hk 35 (by decide)
          clear hk
          clear hd
          exact Yield.pick (t := false) rfl e31 ⟨Ext.refl _, e35⟩
      · intro vals wz hz hv
        have g15 : vals 0 = .agg #[.int .i64 c, .int .i64 n, .slice a3 ts.length m3, .string ⟨d.toArray⟩] := hv 0 (by decide)
        have g16 : vals 1 = .int .i64 tag := hv 1 (by decide)
        have g17 : vals 2 = .bool H := hv 2 (by decide)
        have g18 : vals 3 = .agg #[.int .i64 c, .int .i64 n, .slice a3 ts.length m3, .string ⟨d.toArray⟩] := hv 3 (by decide)
        have g19 : vals 4 = .int .i64 tag := hv 4 (by decide)
        have g20 : vals 5 = .bool H := hv 5 (by decide)
        have g21 : vals 6 = .bool false := hv 6 (by decide)
        have g22 : vals 7 = .bool false := hv 7 (by decide)
        have g23 : vals 8 = .agg #[.int .i64 c, .int .i64 n, .slice a3 ts.length m3, .string ⟨d.toArray⟩] := hv 8 (by decide)
        have g24 : vals 9 = .agg #[.int .i64 r.client, .int .i64 r.number, .slice a2 m2 c2, .string ⟨r.data.toArray⟩] := hv 9 (by decide)
        have g25 : vals 10 = .bool S := hv 10 (by decide)
        have g26 : vals 11 = .agg #[.int .i64 c, .int .i64 n, .slice a3 ts.length m3, .string ⟨d.toArray⟩] := hv 11 (by decide)
        have g27 : vals 12 = .agg #[.int .i64 r.client, .int .i64 r.number, .slice a2 m2 c2, .string ⟨r.data.toArray⟩] := hv 12 (by decide)
        have g28 : vals 13 = .bool S := hv 13 (by decide)
        have g29 : vals 14 = .bool false := hv 14 (by decide)
        have g30 : vals 15 = .bool false := hv 15 (by decide)
        have g31 : vals 16 = .bool false := hv 16 (by decide)
        have g32 : vals 17 = .agg #[.int .i64 c, .int .i64 n, .slice a3 ts.length m3, .string ⟨d.toArray⟩] := hv 17 (by decide)
        have g33 : vals 18 = .agg #[.int .i64 c, .int .i64 n, .slice a3 ts.length m3, .string ⟨d.toArray⟩] := hv 18 (by decide)
        have g34 : vals 19 = .bool true := hv 19 (by decide)
        have g35 : vals 20 = .bool false := hv 20 (by decide)
        have g36 : vals 21 = .bool false := hv 21 (by decide)
        clear hv
        simp only [putAll, Act.put, List.setIfInBounds_toArray, List.set_cons_zero, List.set_cons_succ, g15, g16, g17, g18, g19, g20, g21, g22, g23, g24, g25, g26, g27, g28, g29, g30, g31, g32, g33, g34, g35, g36]
        clear g15
        clear g16
        clear g17
        clear g18
        clear g19
        clear g20
        clear g21
        clear g22
        clear g23
        clear g24
        clear g25
        clear g26
        clear g27
        clear g28
        clear g29
        clear g30
        clear g31
        clear g32
        clear g33
        clear g34
        clear g35
        clear g36
        have hEz := (hE.trans hE2).trans hz
        go_wp2_with fail
        go_roundw
        case rel => exact ⟨k + 1, by omega, by go_num, hEz⟩
        case measure => simp [intOf]; omega
    · have hWr := hE0.trans hE
      have hz0 := Rec.tagged_zero l
      have HZ := Lib.hid hz0
      clear hz0
      go_wp2_with fail
      refine (recAlive_any _).mono ?_
      rintro e w2 ⟨rfl, hE2⟩
      have hE2' := hWr.trans hE2
      go_wp2_with fail
      refine (tagged_any _ l tag _ (HV.out.below hE2') hlen).mono ?_
      rintro e w3 ⟨u3, rfl, hi3, hE3⟩
      obtain ⟨a3, n3, c3, rfl⟩ := Ints.isSlice hi3
      have HI3 := Lib.hid hi3
      have hE3' := hE2'.trans hE3
      clear hi3
      go_wp2_with fail
      refine (refTagged_any _ l tag _ (HV.out.below hE3') hlen).mono ?_
      rintro e w4 ⟨u4, rfl, hi4, hE4⟩
      obtain ⟨a4, n4, c4, rfl⟩ := Ints.isSlice hi4
      have HI4 := Lib.hid hi4
      have hE4' := hE3'.trans hE4
      clear hi4
      go_wp2_with fail
      refine (equal3_any _ _ _ _ _ (HI3.out.below hE4) HI4.out).mono ?_
      rintro e w5 ⟨rfl, hE5⟩
      rw [same1]
      have hE5' := hE4'.trans hE5
      go_wp2_with fail
      refine (tagged_any _ l 0 _ (HV.out.below hE5') hlen).mono ?_
      rintro e w6 ⟨u6, rfl, hi6, hE6⟩
      obtain ⟨a6, n6, c6, rfl⟩ := Ints.isSlice hi6
      have hn6 := (Ints.len hi6).1
      rw [HZ.out] at hn6
      subst hn6
      clear hi6
      go_wp2_with fail
      go_ret
      rw [← HH0.out]
      exact ⟨by simp, hE5'.trans hE6⟩

namespace recordTags
theorem own : ownKnob Try.prog.godebug = none := by kernel_rfl
theorem laidOut : laidOutB Try.prog = true := by kernel_rfl
set_option linter.unusedVariables false in
set_option maxRecDepth 100000 in
theorem lifted (os : Os) (started : os.Started) (H : Type) (enc : TypeId × Value → H) :
    ReturnsInHanded {} Try.checked os 7 .any (Rows.recordTagsSpec.pre6 enc Try.prog Try.f7 Rows.recordTagsRow.domain false) (Rows.recordTagsSpec.post enc Try.prog Try.f7 false true false false) := by
  refine returnsInHanded_of_change_sized (C := Try.checked) own started (by kernel_rfl) Try.func7
    (ChangeSpec.witness6 (enc := enc) (C := Try.checked) false ⟨#[], #[.slice none 0 0, .int .i64 0, .agg #[.int .i64 0, .int .i64 0, .slice none 0 0, .string ByteArray.empty]], []⟩ 8 (by kernel_rfl) (by kernel_rfl) (by kernel_rfl) (by kernel_rfl)) ?_
  intro W base args ds gs before hval0 hW hcnd hsz _
  have hval : ∀ (j : Nat) t v, Try.f7.params[j]? = some t → args[j]? = some v → Value.okWide Try.prog W .any base t v := hval0
  have hW' := hW
  obtain ⟨p, q, hA0, hV, rfl, hfz, hnd⟩ := hW'
  have hA : DataW.TrodAll enc Try.prog W 0 (fun _ => true) true Try.f7.params.toList args.toList ds p := hA0
  rw [Try.params7] at hA hval
  obtain ⟨v0, vs0, d0, ds0, p0, q0, hargs, rfl, rfl, h0, r0⟩ := trodAll_cons hA
  obtain ⟨v1, vs1, d1, ds1, p1, q1, rfl, rfl, rfl, h1, r1⟩ := trodAll_cons r0
  obtain ⟨v2, vs2, d2, ds2, p2, q2, rfl, rfl, rfl, h2, r2⟩ := trodAll_cons r1
  obtain ⟨rfl, rfl, rfl⟩ := trodAll_nil r2
  obtain rfl : args = #[v0, v1, v2] := by cases args; simp_all
  obtain ⟨rfl, rfl⟩ := trodVars_none hV
  have k0 := h0
  have lt0 : ∀ x ∈ p0, x.block < W.heap.size := by obtain ⟨m, hm⟩ := k0; exact DataW.trod_lt m _ _ _ hm
  obtain ⟨a0, len0, cap0, rfl⟩ := okWide_slice Try.underlying39 (hval 0 39 v0 rfl rfl)
  obtain ⟨l0, w0⟩ : ∃ l, Recs W (.slice a0 len0 cap0) l := by
    obtain ⟨fuel, hf⟩ := h0
    obtain ⟨v, l, hcs, hb⟩ := recs_of_raw hf
    simp [Value.cells] at hcs
    subst hcs
    exact ⟨l, hb⟩
  have sz0 : len0 * 56 ≤ 140737488351232 := by obtain ⟨fuel, hf⟩ := h0; exact reach_of_raw (P := Try.prog) (x := (d0, p0)) (j := 0) hsz (by rw [Try.params7]; rfl) rfl Try.underlying39 (by kernel_rfl) hf
  have k1 := h1
  have lt1 : ∀ x ∈ p1, x.block < W.heap.size := by obtain ⟨m, hm⟩ := k1; exact DataW.trod_lt m _ _ _ hm
  obtain ⟨a1, rfl, _, _, w1⟩ := open_int Try.underlying3 (hval 1 3 v1 rfl rfl) h1
  have k2 := h2
  have lt2 : ∀ x ∈ p2, x.block < W.heap.size := by obtain ⟨m, hm⟩ := k2; exact DataW.trod_lt m _ _ _ hm
  obtain ⟨l2, w2⟩ := rec_arg (hval 2 26 v2 rfl rfl) h2
  clear hA0 hval0
  refine (recordTags_walk _ v2 l0 a1 l2 W w0 w2 (by obtain ⟨_, _, e, _⟩ := w0; injection e with _ e _; omega)).mono fun e W' ⟨he, bel⟩ => ?_
  subst he
  exact ⟨_, rfl, _, _, _, [], _, [], hW, trodAll_mk1 (shut_bool Try.underlying4 _), (trodAll_cons_mk (Below.trod laidOut (by kernel_rfl) (of_decide_eq_true (by kernel_rfl)) k0 bel lt0) (trodAll_cons_mk (Below.trod laidOut (by kernel_rfl) (of_decide_eq_true (by kernel_rfl)) k1 bel lt1) (trodAll_cons_mk (Below.trod laidOut (by kernel_rfl) (of_decide_eq_true (by kernel_rfl)) k2 bel lt2) trodAll_mk0))), rfl, bel.frame _, fun h => by cases h⟩
theorem over : Rows.recordTagsRow.holds Try.pinned (OpenSpec.ofChange Rows.recordTagsSpec) :=
  OpenClaim.holds_of_wide 7 Try.f7 rfl rfl rfl rfl rfl rfl rfl ⟨rfl, rfl, rfl, rfl, rfl⟩ rfl rfl rfl rfl rfl (by kernel_rfl) Try.func7 (by kernel_rfl)
    (of_decide_eq_true (by kernel_rfl)) (by unfold Func.isWrapper; first | (rw [if_pos (by decide +kernel)]; kernel_rfl) | (rw [if_neg (by decide +kernel)]; exact ⟨rfl, rfl⟩))
    (fun os started H enc _ => lifted os started H enc)
theorem proved : Rows.RecordTagsSaid := over
end recordTags
end Go.Proofs.Ytjflbjlpibekhaa
