/-
  PackOne: a number is written in one way alone: what is read of any bytes, written again, is just these: for every input the statement's function returns true, and leaves what came in as it was.
-/
import Derived.Test.YtkkbjbbmjoacnaaPackRaw
import Derived.Test.YtkkbjbbmjoacnaaRegion
namespace Go.Proofs.Ytkkbjbbmjoacnaa
open Go.ChangeShapes Go.WideShapes Go.ChangeAt Go.RowKit

theorem leftE (p : Nat) (s : Pack.St) (w : World) (h : RD w p s) : Calls Try.prog 38 #[.pointer (some ⟨p, 0, none⟩)] w fun e w' => e = .returned (.int .i64 (s.left.length : Nat)) ∧ Ext w w' :=
  (left_any p s w h).mono fun _ _ ⟨he, hw⟩ => by subst hw; exact ⟨he, Ext.refl _⟩
set_option maxRecDepth 100000 in
set_option maxHeartbeats 4000000 in
theorem packOne_walk (a : Option Addr) (n c : Nat) (l : List UInt8) (W : World) (h0 : Bytes W (.slice a n c) l) (hs : n * 1 ≤ 140737488351232) :
    Calls Try.prog 14 #[.slice a n c] W fun e W' => e = .returned (.bool true) ∧ Below W.heap.size W W' := by
  obtain ⟨hn, hnc, hc⟩ := h0.len
  subst hn
  have HB := Lib.hid h0
  clear h0
  by_cases hbig : (20000 : Int) < (l.length : Int)
  · go_enter Try.func14, Try.ntmps14
    go_wp2_with fail
    refine (newReader_any _ _ _ HB.out (by omega)).mono ?_
    rintro e w1 ⟨p, rfl, hp, hr1, hb1⟩
    go_wp2_with fail
    refine (packAlive_any _).mono ?_
    rintro e w2 ⟨rfl, hb2⟩
    go_wp2_with fail
    go_ret
    exact ⟨rfl, hb1.trans hb2⟩
  · by_cases herr : (Pack.St.num ⟨l, 0⟩ 4611686018427387904).1.err = 0
    · obtain ⟨m, hread, htake, hml, hm62, _⟩ := Pack.num_read (s := ⟨l, 0⟩) rfl herr
      simp only at hread htake hml
      have hok : okNum (m : Int) = true := by unfold okNum; simp; omega
      have hone : oneNum (m : Int) = Pack.num m := by unfold oneNum; rw [hok]; simp
      have hnum := numOne_any (m : Int)
      rw [hok, hone] at hnum
      clear herr hok hone
      go_enter Try.func14, Try.ntmps14
      go_wp2_with fail
      refine (newReader_any _ _ _ HB.out (by omega)).mono ?_
      rintro e w1 ⟨p, rfl, hp, hr1, hb1⟩
      go_wp2_with fail
      refine (num_any p _ _ _ hr1).mono ?_
      rw [hread]
      rintro e w2 ⟨rfl, hB2, hr2⟩
      have hE2 : Ext W w2 := Below.trans (B := W.heap.size) hb1 (hB2.below hp hb1.size)
      go_wp2_with fail
      refine (err_any p _ _ hr2).mono ?_
      rintro e w3 ⟨rfl, rfl⟩
      go_wp2_with fail
      refine (hnum _).mono ?_
      rintro e w3 ⟨a3, k3, c3, rfl, hby3, hk3, hE3⟩
      subst hk3
      have hr3 := hr2.ext hE3
      have hE03 := hE2.trans hE3
      clear hr2 hr1 hnum hread hB2 hb1 hE2
      have hk : (Pack.num m).length ≤ 9 := Pack.num_nine hm62
      have hsub : IntKind.i64.wrap ((l.length : Int) - ((l.length - (Pack.num m).length : Nat) : Int)) = (((Pack.num m).length : Nat) : Int) := by
        rw [IntWalk.i64_in _ (by omega)]; omega
      have hto := fun w' : World => run_sl_to (P := Try.prog) (w := w') Try.underlying22 (by kernel_rfl) (a := a) (n := l.length) (cap := c) (Pack.num m).length (by omega) .i64
      go_wp2_with fail
      refine wp_region_facts (by kernel_rfl) Ext (fun iop v w => match iop with
          | 0 => v = .bool true
          | 1 => v = .bool true
          | 2 => v = .bool true
          | 3 => v = .bool true
          | 4 => v = .bool true
          | 5 => v = .slice a3 (Pack.num m).length c3
          | 6 => v = .int .i64 ((Pack.num m).length : Nat)
          | 7 => v = .slice a l.length c
          | 8 => v = .int .i64 (l.length : Nat)
          | 9 => v = .pointer (some ⟨p, 0, none⟩)
          | 10 => v = .int .i64 ((l.length - (Pack.num m).length : Nat) : Int)
          | 11 => v = .int .i64 ((Pack.num m).length : Nat)
          | 12 => v = .bool true
          | 13 => v = .bool true
          | 14 => v = .bool true
          | 15 => v = .slice a3 (Pack.num m).length c3
          | 16 => v = .string ⟨(Pack.num m).toArray⟩
          | 17 => v = .slice a l.length c
          | 18 => v = .slice a3 (Pack.num m).length c3
          | 19 => v = .int .i64 ((Pack.num m).length : Nat)
          | 20 => v = .slice a (Pack.num m).length c
          | 21 => v = .string ⟨(Pack.num m).toArray⟩
          | 22 => v = .bool true
          | 23 => v = .bool true
          | _ => v = .bool true
          ) (by kernel_rfl) (fun _ _ _ h k => Ext.trans h k) (fun a => Ext.refl a) (Ext.drew _) ?_ ?_ ?_
      · intro iop v wa wb hF hL
        cases iop with
        | zero => exact hF
        | succ iop =>
          cases iop with
          | zero => exact hF
          | succ iop =>
            cases iop with
            | zero => exact hF
            | succ iop =>
              cases iop with
              | zero => exact hF
              | succ iop =>
                cases iop with
                | zero => exact hF
                | succ iop =>
                  cases iop with
                  | zero => exact hF
                  | succ iop =>
                    cases iop with
                    | zero => exact hF
                    | succ iop =>
                      cases iop with
                      | zero => exact hF
                      | succ iop =>
                        cases iop with
                        | zero => exact hF
                        | succ iop =>
                          cases iop with
                          | zero => exact hF
                          | succ iop =>
                            cases iop with
                            | zero => exact hF
                            | succ iop =>
                              cases iop with
                              | zero => exact hF
                              | succ iop =>
                                cases iop with
                                | zero => exact hF
                                | succ iop =>
                                  cases iop with
                                  | zero => exact hF
                                  | succ iop =>
                                    cases iop with
                                    | zero => exact hF
                                    | succ iop =>
                                      cases iop with
                                      | zero => exact hF
                                      | succ iop =>
                                        cases iop with
                                        | zero => exact hF
                                        | succ iop =>
                                          cases iop with
                                          | zero => exact hF
                                          | succ iop =>
                                            cases iop with
                                            | zero => exact hF
                                            | succ iop =>
                                              cases iop with
                                              | zero => exact hF
                                              | succ iop =>
                                                cases iop with
                                                | zero => exact hF
                                                | succ iop =>
                                                  cases iop with
                                                  | zero => exact hF
                                                  | succ iop =>
                                                    cases iop with
                                                    | zero => exact hF
                                                    | succ iop =>
                                                      cases iop with
                                                      | zero => exact hF
                                                      | succ iop =>
                                                        exact hF
      · refine Obls.cons ?_ (Obls.cons ?_ (Obls.cons ?_ (Obls.cons ?_ (Obls.cons ?_ (Obls.cons ?_ (Obls.cons ?_ (Obls.cons ?_ (Obls.cons ?_ (Obls.cons ?_ (Obls.cons ?_ (Obls.cons ?_ (Obls.cons ?_ (Obls.cons ?_ (Obls.cons ?_ (Obls.cons ?_ (Obls.cons ?_ (Obls.cons ?_ (Obls.cons ?_ (Obls.cons ?_ (Obls.cons ?_ (Obls.cons ?_ (Obls.cons ?_ (Obls.cons ?_ (Obls.cons ?_ (Obls.nil)))))))))))))))))))))))))
        · intro ev wy hp hl hk hd
          clear hk
          clear hd
          refine Yield.call rfl hp Try.func29 rfl (by kernel_rfl) ?_
          simp only [List.map_toArray, List.map_nil]
          exact (packAlive_any _).mono fun _ _ ⟨he, hb⟩ => ⟨_, he, hb, by first | rfl | simp⟩
        · intro ev wy hp hl hk hd
          have e37 : ev (.tmp 37) = .bool true := hk 37 (by decide)
          clear hk
          clear hd
          exact Yield.mv rfl ⟨Ext.refl _, e37⟩
        · intro ev wy hp hl hk hd
          have e6 : ev (.tmp 6) = .bool true := hk 6 (by decide)
          clear hk
          refine ⟨fun _ _ _ => ?_, fun _ hx hne => absurd hx hne⟩
          clear hd
          exact Yield.mv rfl ⟨Ext.refl _, e6⟩
        · intro ev wy hp hl hk hd
          have e38 : ev (.tmp 38) = .bool true := hk 38 (by decide)
          have e39 : ev (.tmp 39) = .bool true := hk 39 (by decide)
          clear hk
          clear hd
          exact Yield.pick (t := true) rfl e38 ⟨Ext.refl _, e39⟩
        · intro ev wy hp hl hk hd
          have e40 : ev (.tmp 40) = .bool true := hk 40 (by decide)
          clear hk
          clear hd
          exact Yield.mv rfl ⟨Ext.refl _, e40⟩
        · intro ev wy hp hl hk hd
          have e5 : ev (.tmp 5) = .slice a3 (Pack.num m).length c3 := hk 5 (by decide)
          clear hk
          refine ⟨fun _ _ _ => ?_, fun _ hx hne => absurd hx hne⟩
          clear hd
          exact Yield.mv rfl ⟨Ext.refl _, e5⟩
        · intro ev wy hp hl hk hd
          have e42 : ev (.tmp 42) = .slice a3 (Pack.num m).length c3 := hk 42 (by decide)
          clear hk
          refine ⟨fun _ _ _ => ?_, fun _ hx hne => absurd hx hne⟩
          clear hd
          exact Yield.op (v := .int .i64 ((Pack.num m).length : Nat)) (w' := wy) (by simp [execOp, go_sem, e42]) ⟨Ext.refl _, rfl⟩
        · intro ev wy hp hl hk hd
          have e0 : ev (.tmp 0) = .slice a l.length c := hk 0 (by decide)
          clear hk
          refine ⟨fun _ _ _ => ?_, fun _ hx hne => absurd hx hne⟩
          clear hd
          exact Yield.mv rfl ⟨Ext.refl _, e0⟩
        · intro ev wy hp hl hk hd
          have e44 : ev (.tmp 44) = .slice a l.length c := hk 44 (by decide)
          clear hk
          refine ⟨fun _ _ _ => ?_, fun _ hx hne => absurd hx hne⟩
          clear hd
          exact Yield.op (v := .int .i64 (l.length : Nat)) (w' := wy) (by simp [execOp, go_sem, e44]) ⟨Ext.refl _, rfl⟩
        · intro ev wy hp hl hk hd
          have e3 : ev (.tmp 3) = .pointer (some ⟨p, 0, none⟩) := hk 3 (by decide)
          clear hk
          refine ⟨fun _ _ _ => ?_, fun _ hx hne => absurd hx hne⟩
          clear hd
          exact Yield.mv rfl ⟨Ext.refl _, e3⟩
        · intro ev wy hp hl hk hd
          have e46 : ev (.tmp 46) = .pointer (some ⟨p, 0, none⟩) := hk 46 (by decide)
          clear hk
          refine ⟨fun _ _ _ => ?_, fun _ hx hne => absurd hx hne⟩
          clear hd
          refine Yield.call rfl hp Try.func38 rfl (by kernel_rfl) ?_
          simp only [List.map_toArray, List.map_cons, List.map_nil, e46]
          exact (leftE p _ _ (hr3.ext hl)).mono fun _ _ ⟨he, hb⟩ => ⟨_, he, hb, by first | rfl | simp⟩
        · intro ev wy hp hl hk hd
          have e45 : ev (.tmp 45) = .int .i64 (l.length : Nat) := hk 45 (by decide)
          have e47 : ev (.tmp 47) = .int .i64 ((l.length - (Pack.num m).length : Nat) : Int) := hk 47 (by decide)
          clear hk
          refine ⟨fun _ _ _ => ?_, fun _ hx hne => absurd hx hne⟩
          clear hd
          exact Yield.op (w' := wy) (by simp [execOp, go_sem, e45, e47, hsub]) ⟨Ext.refl _, rfl⟩
        · intro ev wy hp hl hk hd
          have e43 : ev (.tmp 43) = .int .i64 ((Pack.num m).length : Nat) := hk 43 (by decide)
          have e48 : ev (.tmp 48) = .int .i64 ((Pack.num m).length : Nat) := hk 48 (by decide)
          clear hk
          refine ⟨fun _ _ _ => ?_, fun _ hx hne => absurd hx hne⟩
          clear hd
          exact Yield.op (v := .bool true) (w' := wy) (by simp [execOp, go_sem, e43, e48]) ⟨Ext.refl _, rfl⟩
        · intro ev wy hp hl hk hd
          have e41 : ev (.tmp 41) = .bool true := hk 41 (by decide)
          have e49 : ev (.tmp 49) = .bool true := hk 49 (by decide)
          clear hk
          clear hd
          exact Yield.pick (t := true) rfl e41 ⟨Ext.refl _, e49⟩
        · intro ev wy hp hl hk hd
          have e50 : ev (.tmp 50) = .bool true := hk 50 (by decide)
          clear hk
          clear hd
          exact Yield.mv rfl ⟨Ext.refl _, e50⟩
        · intro ev wy hp hl hk hd
          have e5 : ev (.tmp 5) = .slice a3 (Pack.num m).length c3 := hk 5 (by decide)
          clear hk
          refine ⟨fun _ _ _ => ?_, fun _ hx hne => absurd hx hne⟩
          clear hd
          exact Yield.mv rfl ⟨Ext.refl _, e5⟩
        · intro ev wy hp hl hk hd
          have e52 : ev (.tmp 52) = .slice a3 (Pack.num m).length c3 := hk 52 (by decide)
          clear hk
          refine ⟨fun _ _ _ => ?_, fun _ hx hne => absurd hx hne⟩
          clear hd
          exact Yield.conv rfl e52 (run_str _ _ 5 Try.underlying22 Try.underlying5 Try.underlying9 (hby3.below hl)) ⟨Ext.refl _, rfl⟩
        · intro ev wy hp hl hk hd
          have e0 : ev (.tmp 0) = .slice a l.length c := hk 0 (by decide)
          clear hk
          refine ⟨fun _ _ _ => ?_, fun _ hx hne => absurd hx hne⟩
          clear hd
          exact Yield.mv rfl ⟨Ext.refl _, e0⟩
        · intro ev wy hp hl hk hd
          have e5 : ev (.tmp 5) = .slice a3 (Pack.num m).length c3 := hk 5 (by decide)
          clear hk
          refine ⟨fun _ _ _ => ?_, fun _ hx hne => absurd hx hne⟩
          clear hd
          exact Yield.mv rfl ⟨Ext.refl _, e5⟩
        · intro ev wy hp hl hk hd
          have e55 : ev (.tmp 55) = .slice a3 (Pack.num m).length c3 := hk 55 (by decide)
          clear hk
          refine ⟨fun _ _ _ => ?_, fun _ hx hne => absurd hx hne⟩
          clear hd
          exact Yield.op (v := .int .i64 ((Pack.num m).length : Nat)) (w' := wy) (by simp [execOp, go_sem, e55]) ⟨Ext.refl _, rfl⟩
        · intro ev wy hp hl hk hd
          have e54 : ev (.tmp 54) = .slice a l.length c := hk 54 (by decide)
          have e56 : ev (.tmp 56) = .int .i64 ((Pack.num m).length : Nat) := hk 56 (by decide)
          clear hk
          refine ⟨fun _ _ _ => ?_, fun _ hx hne => absurd hx hne⟩
          clear hd
          exact Yield.slice rfl e54 (by show (Instr.sliceAt _ _ none (some (ev (.tmp 56))) none).run _ _ = _; rw [e56]; exact hto wy) ⟨Ext.refl _, rfl⟩
        · intro ev wy hp hl hk hd
          have e57 : ev (.tmp 57) = .slice a (Pack.num m).length c := hk 57 (by decide)
          clear hk
          refine ⟨fun _ _ _ => ?_, fun _ hx hne => absurd hx hne⟩
          clear hd
          have hb21 := ((HB.out.below hE03).below hl).take (Pack.num m).length hml
          rw [htake] at hb21
          exact Yield.conv rfl e57 (run_str _ _ 5 Try.underlying22 Try.underlying5 Try.underlying9 hb21) ⟨Ext.refl _, rfl⟩
        · intro ev wy hp hl hk hd
          have e53 : ev (.tmp 53) = .string ⟨(Pack.num m).toArray⟩ := hk 53 (by decide)
          have e58 : ev (.tmp 58) = .string ⟨(Pack.num m).toArray⟩ := hk 58 (by decide)
          clear hk
          refine ⟨fun _ _ _ => ?_, fun _ hx hne => absurd hx hne⟩
          clear hd
          exact Yield.op (v := .bool true) (w' := wy) (by simp [execOp, go_sem, e53, e58]) ⟨Ext.refl _, rfl⟩
        · intro ev wy hp hl hk hd
          have e51 : ev (.tmp 51) = .bool true := hk 51 (by decide)
          have e59 : ev (.tmp 59) = .bool true := hk 59 (by decide)
          clear hk
          clear hd
          exact Yield.pick (t := true) rfl e51 ⟨Ext.refl _, e59⟩
        · intro ev wy hp hl hk hd
          have e60 : ev (.tmp 60) = .bool true := hk 60 (by decide)
          clear hk
          clear hd
          exact Yield.as rfl ⟨Ext.refl _, e60⟩
      · intro vals wz hz hv
        have g37 : vals 0 = .bool true := hv 0 (by decide)
        have g38 : vals 1 = .bool true := hv 1 (by decide)
        have g39 : vals 2 = .bool true := hv 2 (by decide)
        have g40 : vals 3 = .bool true := hv 3 (by decide)
        have g41 : vals 4 = .bool true := hv 4 (by decide)
        have g42 : vals 5 = .slice a3 (Pack.num m).length c3 := hv 5 (by decide)
        have g43 : vals 6 = .int .i64 ((Pack.num m).length : Nat) := hv 6 (by decide)
        have g44 : vals 7 = .slice a l.length c := hv 7 (by decide)
        have g45 : vals 8 = .int .i64 (l.length : Nat) := hv 8 (by decide)
        have g46 : vals 9 = .pointer (some ⟨p, 0, none⟩) := hv 9 (by decide)
        have g47 : vals 10 = .int .i64 ((l.length - (Pack.num m).length : Nat) : Int) := hv 10 (by decide)
        have g48 : vals 11 = .int .i64 ((Pack.num m).length : Nat) := hv 11 (by decide)
        have g49 : vals 12 = .bool true := hv 12 (by decide)
        have g50 : vals 13 = .bool true := hv 13 (by decide)
        have g51 : vals 14 = .bool true := hv 14 (by decide)
        have g52 : vals 15 = .slice a3 (Pack.num m).length c3 := hv 15 (by decide)
        have g53 : vals 16 = .string ⟨(Pack.num m).toArray⟩ := hv 16 (by decide)
        have g54 : vals 17 = .slice a l.length c := hv 17 (by decide)
        have g55 : vals 18 = .slice a3 (Pack.num m).length c3 := hv 18 (by decide)
        have g56 : vals 19 = .int .i64 ((Pack.num m).length : Nat) := hv 19 (by decide)
        have g57 : vals 20 = .slice a (Pack.num m).length c := hv 20 (by decide)
        have g58 : vals 21 = .string ⟨(Pack.num m).toArray⟩ := hv 21 (by decide)
        have g59 : vals 22 = .bool true := hv 22 (by decide)
        have g60 : vals 23 = .bool true := hv 23 (by decide)
        have g2 : vals 24 = .bool true := hv 24 (by decide)
        clear hv
        simp only [putAll, Act.put, List.setIfInBounds_toArray, List.set_cons_zero, List.set_cons_succ, g37, g38, g39, g40, g41, g42, g43, g44, g45, g46, g47, g48, g49, g50, g51, g52, g53, g54, g55, g56, g57, g58, g59, g60, g2]
        clear g37
        clear g38
        clear g39
        clear g40
        clear g41
        clear g42
        clear g43
        clear g44
        clear g45
        clear g46
        clear g47
        clear g48
        clear g49
        clear g50
        clear g51
        clear g52
        clear g53
        clear g54
        clear g55
        clear g56
        clear g57
        clear g58
        clear g59
        clear g60
        clear g2
        go_wp2_with fail
        go_ret
        exact ⟨rfl, hE03.trans hz⟩
    · have hz : (Pack.St.num ⟨l, 0⟩ 4611686018427387904).2 = 0 := by
        unfold Pack.St.num at herr ⊢
        split at herr
        · rename_i h; rw [if_pos h]
        · rename_i h
          rw [if_neg h]
          split at herr
          · rename_i h2; rw [if_pos h2]
          · rename_i h2
            rw [if_neg h2]
            split at herr
            · rename_i h3; rw [if_pos h3]
            · simp at herr
      obtain ⟨s, hs1⟩ : ∃ s, s = (Pack.St.num ⟨l, 0⟩ 4611686018427387904).1 := ⟨_, rfl⟩
      rw [← hs1] at herr
      have hq : (s.err == 0) = false := by simp [herr]
      go_enter Try.func14, Try.ntmps14
      go_wp2_with fail
      refine (newReader_any _ _ _ HB.out (by omega)).mono ?_
      rintro e w1 ⟨p, rfl, hp, hr1, hb1⟩
      go_wp2_with fail
      refine (num_any p _ _ _ hr1).mono ?_
      rw [hz, ← hs1]
      rintro e w2 ⟨rfl, hB2, hr2⟩
      have hE2 : Ext W w2 := Below.trans (B := W.heap.size) hb1 (hB2.below hp hb1.size)
      clear hz hs1 herr
      go_wp2_with fail
      refine (err_any p _ _ hr2).mono ?_
      rintro e w3 ⟨rfl, rfl⟩
      go_wp2_with fail
      refine (packAlive_any _).mono ?_
      rintro e w4 ⟨rfl, hb4⟩
      go_wp2_with fail
      go_ret
      exact ⟨rfl, hE2.trans hb4⟩

namespace packOne
theorem own : ownKnob Try.prog.godebug = none := by kernel_rfl
theorem laidOut : laidOutB Try.prog = true := by kernel_rfl
set_option linter.unusedVariables false in
set_option maxRecDepth 100000 in
theorem lifted (os : Os) (started : os.Started) (H : Type) (enc : TypeId × Value → H) :
    ReturnsInHanded {} Try.checked os 14 .any (Rows.packOneSpec.pre6 enc Try.prog Try.f14 Rows.packOneRow.domain false) (Rows.packOneSpec.post enc Try.prog Try.f14 false true false false) := by
  refine returnsInHanded_of_change_sized (C := Try.checked) own started (by kernel_rfl) Try.func14
    (ChangeSpec.witness6 (enc := enc) (C := Try.checked) false ⟨#[], #[.slice none 0 0], []⟩ 8 (by kernel_rfl) (by kernel_rfl) (by kernel_rfl) (by kernel_rfl)) ?_
  intro W base args ds gs before hval0 hW hcnd hsz _
  have hval : ∀ (j : Nat) t v, Try.f14.params[j]? = some t → args[j]? = some v → Value.okWide Try.prog W .any base t v := hval0
  have hW' := hW
  obtain ⟨p, q, hA0, hV, rfl, hfz, hnd⟩ := hW'
  have hA : DataW.TrodAll enc Try.prog W 0 (fun _ => true) true Try.f14.params.toList args.toList ds p := hA0
  rw [Try.params14] at hA hval
  obtain ⟨v0, vs0, d0, ds0, p0, q0, hargs, rfl, rfl, h0, r0⟩ := trodAll_cons hA
  obtain ⟨rfl, rfl, rfl⟩ := trodAll_nil r0
  obtain rfl : args = #[v0] := by cases args; simp_all
  obtain ⟨rfl, rfl⟩ := trodVars_none hV
  have k0 := h0
  have lt0 : ∀ x ∈ p0, x.block < W.heap.size := by obtain ⟨m, hm⟩ := k0; exact DataW.trod_lt m _ _ _ hm
  obtain ⟨a0, len0, cap0, rfl⟩ := okWide_slice Try.underlying22 (hval 0 22 v0 rfl rfl)
  obtain ⟨l0, w0⟩ : ∃ l, Bytes W (.slice a0 len0 cap0) l := by
    obtain ⟨fuel, hf⟩ := h0
    obtain ⟨v, l, hcs, hb⟩ := bytes_of_raw Try.underlying22 Try.underlying5 (by kernel_rfl) hf
    simp [Value.cells] at hcs
    subst hcs
    exact ⟨l, hb⟩
  have sz0 : len0 * 1 ≤ 140737488351232 := by obtain ⟨fuel, hf⟩ := h0; exact reach_of_raw (P := Try.prog) (x := (d0, p0)) (j := 0) hsz (by rw [Try.params14]; rfl) rfl Try.underlying22 (by kernel_rfl) hf
  clear hA0 hval0
  refine (packOne_walk a0 len0 cap0 l0 W w0 sz0).mono fun e W' ⟨he, bel⟩ => ?_
  subst he
  exact ⟨_, rfl, _, _, _, [], _, [], hW, trodAll_mk1 (shut_bool Try.underlying4 _), (trodAll_cons_mk (Below.trod laidOut (by kernel_rfl) (of_decide_eq_true (by kernel_rfl)) k0 bel lt0) trodAll_mk0), rfl, bel.frame _, fun h => by cases h⟩
theorem over : Rows.packOneRow.holds Try.pinned (OpenSpec.ofChange Rows.packOneSpec) :=
  OpenClaim.holds_of_wide 14 Try.f14 rfl rfl rfl rfl rfl rfl rfl ⟨rfl, rfl, rfl, rfl, rfl⟩ rfl rfl rfl rfl rfl (by kernel_rfl) Try.func14 (by kernel_rfl)
    (of_decide_eq_true (by kernel_rfl)) (by unfold Func.isWrapper; first | (rw [if_pos (by decide +kernel)]; kernel_rfl) | (rw [if_neg (by decide +kernel)]; exact ⟨rfl, rfl⟩))
    (fun os started H enc _ => lifted os started H enc)
theorem proved : Rows.PackOneSaid := over
end packOne
end Go.Proofs.Ytkkbjbbmjoacnaa
