/-
  Merged: Layer 12: Heard.
-/
import Derived.StillTailTactics
import Derived.Test.YtnoeconcpgdjlaaBsMsg
import Derived.Test.YtnoeconcpgdjlaaBsQuD
import Derived.Test.YtnoeconcpgdjlaaBsQuG0

namespace Go.Proofs.Ytnoeconcpgdjlaa
set_option linter.unusedSimpArgs false
set_option linter.unusedVariables false
set_option maxRecDepth 100000
open Go.RowKit Go.ChangeMaps
/- Layer 12: Heard. -/
theorem Quo.hears_not {p : Quo.Pr} {m : Msg.M} (h : ¬ (m.src ∈ p.c.seqs ∧ (m.kind = 4 ∨ m.kind = 6) ∧ m.term = p.c.term ∧ m.number ≤ (p.l.length : Int))) : p.hears m = false := by
  unfold Quo.Pr.hears
  rw [decide_eq_false h]
  rfl
/-- What a hearing leaves: the map and the mark are turned. -/
theorem IsPrS.hear12 {w : World} {B x kb : Nat} {S K : Nat → Prop} {ev : Value} {es : List (Value × Ent.E)} {p : Quo.Pr} (H : IsPrS w B S K x kb ev es p) (m : Msg.M) (hm : p.hears m = true) (o : Obj) (hmap : MapB Try.prog 3 (setBlock w kb o) kb (known12 p.c.seqs (Quo.upd p.f m.src m.number))) :
    (setBlock w kb o).heap[x]? = w.heap[x]? ∧ IsPrS ((setBlock w kb o).setCell ⟨x, 5, none⟩ (.bool (p.is || m.is))) B S K x kb ev es (p.hear m) ∧ TwS S w ((setBlock w kb o).setCell ⟨x, 5, none⟩ (.bool (p.is || m.is))) := by
  have hb1 := butBlock w kb o
  have hb2 : But x (setBlock w kb o) ((setBlock w kb o).setCell ⟨x, 5, none⟩ (.bool (p.is || m.is))) := butSet _ _ _ _
  have hxk : x ≠ kb := fun e => by
    have := H.at'.map.no_cells (cs := _) (t := _) (fr := _) (by rw [← e]; exact H.at'.heap)
    exact this
  have hx1 : (setBlock w kb o).heap[x]? = w.heap[x]? := hb1.block x H.at'.lt hxk
  have h2 : ∀ k, k < w.heap.size → k ≠ kb → k ≠ x → ((setBlock w kb o).setCell ⟨x, 5, none⟩ (.bool (p.is || m.is))).heap[k]? = w.heap[k]? := fun k hk h1 h2 => (hb2.block k (Nat.lt_of_lt_of_le hk hb1.size) h2).trans (hb1.block k hk h1)
  have hh : p.hear m = ⟨p.c, p.l, Quo.upd p.f m.src m.number, p.is || m.is⟩ := by unfold Quo.Pr.hear; rw [if_pos hm]
  refine ⟨hx1, ⟨H.x1, H.k1, H.s, H.kk, ?_, H.ok.hear m⟩, (TwS.but hb1 H.sk).trans (TwS.but hb2 H.sx)⟩
  rw [hh]
  refine ⟨?_, rowOwn H.at'.row (fun k hk => ?_), H.at'.ents, fun q hq => (H.at'.cuts q hq).blocks (fun k hk => ?_), ?_⟩
  · have := heap_setCell (hx1.trans H.at'.heap) 5 (.bool (p.is || m.is))
    exact this
  · obtain ⟨cur, hc⟩ := ownAt H.at'.row hk
    refine h2 k (H.at'.row.lt k hk).2 (fun e => ?_) (fun e => ?_)
    · rw [e] at hc; exact H.at'.map.no_cells hc
    · rw [e, H.at'.heap] at hc
      injection hc with hc
      injection hc with _ e2 _
      exact absurd e2 (by decide)
  · obtain ⟨b, n, hbb, ho⟩ := H.at'.cuts q hq
    obtain ⟨cur, hc⟩ := ownAt ho hk
    refine h2 k (ho.lt k hk).2 (fun e => ?_) (fun e => ?_)
    · rw [e] at hc; exact H.at'.map.no_cells hc
    · rw [e, H.at'.heap] at hc
      injection hc with hc
      injection hc with _ e2 _
      exact absurd e2 (by decide)
  · exact hmap.block (hb2.block kb hmap.lt (fun e => hxk e.symm))
def GivesHeard12 (B : Nat) (S K : Nat → Prop) (x : Nat) (w : World) (p : Quo.Pr) (b : Bool) (e : Ending) (w' : World) : Prop := e = .returned (.bool b) ∧ LeavesPr B S K x w p w'
set_option maxHeartbeats 40000000 in
theorem heard12_any {w : World} {B x : Nat} {S K : Nat → Prop} {p : Quo.Pr} (h : IsPr w B S K x p) (v : Value) (m : Msg.M) (hv : IsMsg w v m) (hsrc : Wf64 m.src) :
    Calls Try.prog 27 #[.pointer (some ⟨x, 0, none⟩), v] w (GivesHeard12 B S K x w (p.hear m) (p.hears m)) := by
  have hbx := box_msg
  obtain ⟨kb, ev, es, h⟩ := h
  obtain ⟨a0, n0, k0, a1, n1, k1, a2, n2, k2, a3, n3, k3, rfl, h1, h2, h3, h4⟩ := hv.opened
  have H := Lib.hid h
  have HV := Lib.hid hv
  obtain ⟨W, hW⟩ : ∃ z, w.alloc (.cells (msgCells m (.slice a0 n0 k0) (.slice a1 n1 k1) (.slice a2 n2 k2) (.slice a3 n3 k3)) 77) = z := ⟨_, rfl⟩
  obtain ⟨q, hq⟩ : ∃ z, w.heap.size = z := ⟨_, rfl⟩
  have hE1 : Ext w W := by rw [← hW]; exact Ext.alloc _ _
  have hat : MsgAt 77 W q m (.slice a0 n0 k0) (.slice a1 n1 k1) (.slice a2 n2 k2) (.slice a3 n3 k3) := by rw [← hW, ← hq]; exact MsgAt.new _ _ _ _ _ _ _
  have HE1 := Lib.hid hE1
  have HAT := Lib.hid hat
  have HQ := Lib.hid hq
  have HWW := Lib.hid hW
  have hd := Ext.drew W
  have hP := h.ext (hE1.trans hd)
  obtain ⟨k, b, hlk, hcase⟩ := hP.at'.look hsrc
  have HCASE := Lib.hid hcase
  have x4 : W.drew.cell? ⟨x, 4, none⟩ = some (.map (some kb)) := cell_of_heap hP.at'.heap 4
  have C1 : W.drew.cell? ⟨q, 1, none⟩ = some (.int .i64 m.src) := (hat.ext hd).head.2.1
  clear h hv h1 h2 h3 h4 hW hq hE1 hat hd hP hcase
  go_enter Try.func27, Try.ntmps27
  go_upto_region 1 with fail
  rw [HWW.out, HQ.out]
  clear hbx
  go_cut [5, 6] (fun s5 s6 wx => s5 = .int .i64 k ∧ s6 = .bool b ∧ Hid (Ext W wx))
  case first =>
    go_region
    all_goals
      go_wp2_with fail
      go_meet
      exact ⟨rfl, rfl, Lib.hid (Ext.drew W)⟩
  case rest =>
    obtain ⟨rfl, rfl, HX⟩ := hcut
    obtain ⟨W2, hw2⟩ : ∃ z, z = wc := ⟨_, rfl⟩
    subst hw2
    have HAT2 := Lib.hid (HAT.out.ext HX.out)
    have HE2 := Lib.hid (HE1.out.trans HX.out)
    have C0 : W2.cell? ⟨q, 0, none⟩ = some (.int .i64 m.kind) := HAT2.out.head.1
    obtain ⟨kd, hkd⟩ : ∃ z, m.kind = z := ⟨_, rfl⟩
    rw [hkd] at C0
    have HKD := Lib.hid hkd
    clear hkd hlk x4 C1
    go_upto_region 2 with fail
    go_cut [7] (fun s7 wx => s7 = .bool (decide (kd = 4 ∨ kd = 6)) ∧ wx = W2)
    case first =>
      by_cases k4 : kd = 4
      · subst k4
        go_wp2_with fail
        go_meet
        exact ⟨rfl, rfl⟩
      · by_cases k6 : kd = 6
        · subst k6
          go_wp2_with fail
          go_meet
          exact ⟨rfl, rfl⟩
        · have e4 : (kd == 4) = false := by simp [k4]
          have e6 : (kd == 6) = false := by simp [k6]
          go_wp2_with fail
          go_meet
          exact ⟨by simp [k4, k6], rfl⟩
    case rest =>
      obtain ⟨rfl, hw3⟩ := hcut
      obtain ⟨W3, hw3'⟩ : ∃ z, z = wc := ⟨_, rfl⟩
      subst hw3'
      subst hw3
      obtain ⟨a, ha⟩ : ∃ z : Bool, decide (kd = 4 ∨ kd = 6) = z := ⟨_, rfl⟩
      rw [ha]
      have HA := Lib.hid ha
      clear ha C0
      have hP2 := H.out.ext HE2.out
      have HP2 := Lib.hid hP2
      have C3 : W3.cell? ⟨q, 3, none⟩ = some (.int .i64 m.term) := HAT2.out.head.2.2.2.1
      have C5 : W3.cell? ⟨q, 5, none⟩ = some (.int .i64 m.number) := HAT2.out.head.2.2.2.2.2.1
      have x0 : W3.cell? ⟨x, 0, none⟩ = some (.int .i64 p.c.term) := cell_of_heap hP2.at'.heap 0
      clear hP2
      have hat2 := HAT2.out
      have hEd := Ext.drew W3
      obtain ⟨N, hN⟩ : ∃ N, p.l.length = N := ⟨_, rfl⟩
      obtain ⟨tm, htm⟩ : ∃ z, m.term = z := ⟨_, rfl⟩
      obtain ⟨tp, htp⟩ : ∃ z, p.c.term = z := ⟨_, rfl⟩
      obtain ⟨nm, hnm⟩ : ∃ z, m.number = z := ⟨_, rfl⟩
      rw [htm] at C3
      rw [hnm] at C5
      rw [htp] at x0
      have HNM := Lib.hid (And.intro hN (And.intro htm (And.intro htp hnm)))
      have HLEN := Lib.hid (show ∀ w', Ext W3 w' → Calls Try.prog 23 #[.pointer (some ⟨x, 0, none⟩)] w' fun e w'' => e = .returned (.int .i64 (N : Nat)) ∧ w' = w'' from fun w' h => by
        have := len12_any (HP2.out.ext h).at'
        rw [hN] at this
        exact this)
      have hld := run_loadAt_mid (P := Try.prog) W3.drew q 0 77 (msgCells m (.slice a0 n0 k0) (.slice a1 n1 k1) (.slice a2 n2 k2) (.slice a3 n3 k3)).toList _ (MsgAt.range (hat2.ext hEd)) Try.underlying77 rfl (by kernel_rfl)
      clear hat2 hEd hN htm htp hnm
      go_upto_region 3 with fail
      go_cut [52] (fun s52 wx => s52 = .bool (!p.hears m) ∧ Hid (Ext W3 wx))
      case first =>
        cases b with
        | false =>
          have hno : p.hears m = false := Quo.hears_not fun e => by
            rcases HCASE.out with ⟨_, h, _⟩ | ⟨h, _⟩
            · cases h
            · exact h e.1
          have HNO := Lib.hid hno
          clear hno hld
          go_region
          all_goals
            go_wp2_with fail
            go_meet
            exact ⟨by rw [HNO.out]; rfl, Lib.hid (Ext.drew W3)⟩
        | true =>
          cases a with
          | false =>
            have hno : p.hears m = false := Quo.hears_not fun e => by
              have h1 := e.2.1
              rw [HKD.out] at h1
              have h2 := HA.out
              rw [decide_eq_true h1] at h2
              cases h2
            have HNO := Lib.hid hno
            clear hno hld
            refine wp_region_facts (by kernel_rfl) Ext (fun iop v w => match iop with
                | 0 => v = .bool true
                | 1 => v = .bool false
                | 2 => v = .bool false
                | 3 => v = .bool false
                | 4 => v = .bool true
                | 5 => v = .bool true
                | 6 => v = .bool true
                | 7 => v = undef
                | 8 => v = undef
                | 9 => v = undef
                | 10 => v = undef
                | 11 => v = undef
                | 12 => v = undef
                | 13 => v = undef
                | 14 => v = .bool true
                | 15 => v = .bool true
                | 16 => v = undef
                | 17 => v = undef
                | 18 => v = undef
                | 19 => v = undef
                | 20 => v = undef
                | 21 => v = .bool true
                | 22 => v = .bool true
                | 23 => v = undef
                | 24 => v = undef
                | 25 => v = undef
                | _ => v = .bool true
                ) (by kernel_rfl) (fun _ _ _ h k => Ext.trans h k) (fun a => Ext.refl a) (Ext.drew _) ?_ ?_ ?_
            · intro iop v wa wb hF hL
              iterate 26 (rcases iop with _ | iop; exact hF)
              exact hF
            · refine Obls.cons ?_ (Obls.cons ?_ (Obls.cons ?_ (Obls.cons ?_ (Obls.cons ?_ (Obls.cons ?_ (Obls.cons ?_ (Obls.cons ?_ (Obls.cons ?_ (Obls.cons ?_ (Obls.cons ?_ (Obls.cons ?_ (Obls.cons ?_ (Obls.cons ?_ (Obls.cons ?_ (Obls.cons ?_ (Obls.cons ?_ (Obls.cons ?_ (Obls.cons ?_ (Obls.cons ?_ (Obls.cons ?_ (Obls.cons ?_ (Obls.cons ?_ (Obls.cons ?_ (Obls.cons ?_ (Obls.cons ?_ (Obls.cons ?_ (Obls.nil)))))))))))))))))))))))))))
              · intro ev wy hp hl hk hd
                have e6 : ev (.tmp 6) = .bool true := hk 6 (by decide)
                clear hk hd
                exact Yield.mv rfl ⟨Ext.refl _, e6⟩
              · intro ev wy hp hl hk hd
                have e26 : ev (.tmp 26) = .bool true := hk 26 (by decide)
                clear hk hd
                exact Yield.op (v := .bool false) (w' := wy) (by simp [execOp, go_sem, e26]) ⟨Ext.refl _, rfl⟩
              · intro ev wy hp hl hk hd
                have e27 : ev (.tmp 27) = .bool false := hk 27 (by decide)
                clear hk hd
                exact Yield.mv rfl ⟨Ext.refl _, e27⟩
              · intro ev wy hp hl hk hd
                have e7 : ev (.tmp 7) = .bool false := hk 7 (by decide)
                clear hk
                refine ⟨fun _ _ _ => ?_, fun _ hx hne => absurd hx hne⟩
                clear hd
                exact Yield.mv rfl ⟨Ext.refl _, e7⟩
              · intro ev wy hp hl hk hd
                have e29 : ev (.tmp 29) = .bool false := hk 29 (by decide)
                clear hk
                refine ⟨fun _ _ _ => ?_, fun _ hx hne => absurd hx hne⟩
                clear hd
                exact Yield.op (v := .bool true) (w' := wy) (by simp [execOp, go_sem, e29]) ⟨Ext.refl _, rfl⟩
              · intro ev wy hp hl hk hd
                have e28 : ev (.tmp 28) = .bool false := hk 28 (by decide)
                have e30 : ev (.tmp 30) = .bool true := hk 30 (by decide)
                clear hk hd
                exact Yield.pick (t := false) rfl e28 ⟨Ext.refl _, e30⟩
              · intro ev wy hp hl hk hd
                have e31 : ev (.tmp 31) = .bool true := hk 31 (by decide)
                clear hk hd
                exact Yield.mv rfl ⟨Ext.refl _, e31⟩
              · intro ev wy hp hl hk hd
                have e3 : ev (.tmp 3) = .pointer (some ⟨q, 0, none⟩) := hk 3 (by decide)
                clear hk
                exact ⟨fun x hx he => (by rw [show x = .bool true from hx] at he; cases he), fun _ _ _ => rfl⟩
              · intro ev wy hp hl hk hd
                have e33 : ev (.tmp 33) = undef := hk 33 (by decide)
                clear hk
                exact ⟨fun x hx he => (by rw [show x = .bool true from hx] at he; cases he), fun _ _ _ => rfl⟩
              · intro ev wy hp hl hk hd
                have e0 : ev (.tmp 0) = .pointer (some ⟨x, 0, none⟩) := hk 0 (by decide)
                clear hk
                exact ⟨fun x hx he => (by rw [show x = .bool true from hx] at he; cases he), fun _ _ _ => rfl⟩
              · intro ev wy hp hl hk hd
                have e35 : ev (.tmp 35) = undef := hk 35 (by decide)
                clear hk
                exact ⟨fun x hx he => (by rw [show x = .bool true from hx] at he; cases he), fun _ _ _ => rfl⟩
              · intro ev wy hp hl hk hd
                have e36 : ev (.tmp 36) = undef := hk 36 (by decide)
                clear hk
                exact ⟨fun x hx he => (by rw [show x = .bool true from hx] at he; cases he), fun _ _ _ => rfl⟩
              · intro ev wy hp hl hk hd
                have e37 : ev (.tmp 37) = undef := hk 37 (by decide)
                clear hk
                exact ⟨fun x hx he => (by rw [show x = .bool true from hx] at he; cases he), fun _ _ _ => rfl⟩
              · intro ev wy hp hl hk hd
                have e34 : ev (.tmp 34) = undef := hk 34 (by decide)
                have e38 : ev (.tmp 38) = undef := hk 38 (by decide)
                clear hk
                exact ⟨fun x hx he => (by rw [show x = .bool true from hx] at he; cases he), fun _ _ _ => rfl⟩
              · intro ev wy hp hl hk hd
                have e32 : ev (.tmp 32) = .bool true := hk 32 (by decide)
                have e39 : ev (.tmp 39) = undef := hk 39 (by decide)
                clear hk hd
                exact Yield.pick (t := true) rfl e32 ⟨Ext.refl _, hp.const _⟩
              · intro ev wy hp hl hk hd
                have e40 : ev (.tmp 40) = .bool true := hk 40 (by decide)
                clear hk hd
                exact Yield.mv rfl ⟨Ext.refl _, e40⟩
              · intro ev wy hp hl hk hd
                have e3 : ev (.tmp 3) = .pointer (some ⟨q, 0, none⟩) := hk 3 (by decide)
                clear hk
                exact ⟨fun x hx he => (by rw [show x = .bool true from hx] at he; cases he), fun _ _ _ => rfl⟩
              · intro ev wy hp hl hk hd
                have e42 : ev (.tmp 42) = undef := hk 42 (by decide)
                clear hk
                exact ⟨fun x hx he => (by rw [show x = .bool true from hx] at he; cases he), fun _ _ _ => rfl⟩
              · intro ev wy hp hl hk hd
                have e0 : ev (.tmp 0) = .pointer (some ⟨x, 0, none⟩) := hk 0 (by decide)
                clear hk
                exact ⟨fun x hx he => (by rw [show x = .bool true from hx] at he; cases he), fun _ _ _ => rfl⟩
              · intro ev wy hp hl hk hd
                have e44 : ev (.tmp 44) = undef := hk 44 (by decide)
                clear hk
                exact ⟨fun x hx he => (by rw [show x = .bool true from hx] at he; cases he), fun _ _ _ => rfl⟩
              · intro ev wy hp hl hk hd
                have e43 : ev (.tmp 43) = undef := hk 43 (by decide)
                have e45 : ev (.tmp 45) = undef := hk 45 (by decide)
                clear hk
                exact ⟨fun x hx he => (by rw [show x = .bool true from hx] at he; cases he), fun _ _ _ => rfl⟩
              · intro ev wy hp hl hk hd
                have e41 : ev (.tmp 41) = .bool true := hk 41 (by decide)
                have e46 : ev (.tmp 46) = undef := hk 46 (by decide)
                clear hk hd
                exact Yield.pick (t := true) rfl e41 ⟨Ext.refl _, hp.const _⟩
              · intro ev wy hp hl hk hd
                have e47 : ev (.tmp 47) = .bool true := hk 47 (by decide)
                clear hk hd
                exact Yield.mv rfl ⟨Ext.refl _, e47⟩
              · intro ev wy hp hl hk hd
                have e3 : ev (.tmp 3) = .pointer (some ⟨q, 0, none⟩) := hk 3 (by decide)
                clear hk
                exact ⟨fun x hx he => (by rw [show x = .bool true from hx] at he; cases he), fun _ _ _ => rfl⟩
              · intro ev wy hp hl hk hd
                have e49 : ev (.tmp 49) = undef := hk 49 (by decide)
                clear hk
                exact ⟨fun x hx he => (by rw [show x = .bool true from hx] at he; cases he), fun _ _ _ => rfl⟩
              · intro ev wy hp hl hk hd
                have e50 : ev (.tmp 50) = undef := hk 50 (by decide)
                clear hk
                exact ⟨fun x hx he => (by rw [show x = .bool true from hx] at he; cases he), fun _ _ _ => rfl⟩
              · intro ev wy hp hl hk hd
                have e48 : ev (.tmp 48) = .bool true := hk 48 (by decide)
                have e51 : ev (.tmp 51) = undef := hk 51 (by decide)
                clear hk hd
                exact Yield.pick (t := true) rfl e48 ⟨Ext.refl _, hp.const _⟩
            · intro vals wz hz hv
              have g26 : vals 0 = .bool true := hv 0 (by decide)
              have g27 : vals 1 = .bool false := hv 1 (by decide)
              have g28 : vals 2 = .bool false := hv 2 (by decide)
              have g29 : vals 3 = .bool false := hv 3 (by decide)
              have g30 : vals 4 = .bool true := hv 4 (by decide)
              have g31 : vals 5 = .bool true := hv 5 (by decide)
              have g32 : vals 6 = .bool true := hv 6 (by decide)
              have g33 : vals 7 = undef := hv 7 (by decide)
              have g34 : vals 8 = undef := hv 8 (by decide)
              have g35 : vals 9 = undef := hv 9 (by decide)
              have g36 : vals 10 = undef := hv 10 (by decide)
              have g37 : vals 11 = undef := hv 11 (by decide)
              have g38 : vals 12 = undef := hv 12 (by decide)
              have g39 : vals 13 = undef := hv 13 (by decide)
              have g40 : vals 14 = .bool true := hv 14 (by decide)
              have g41 : vals 15 = .bool true := hv 15 (by decide)
              have g42 : vals 16 = undef := hv 16 (by decide)
              have g43 : vals 17 = undef := hv 17 (by decide)
              have g44 : vals 18 = undef := hv 18 (by decide)
              have g45 : vals 19 = undef := hv 19 (by decide)
              have g46 : vals 20 = undef := hv 20 (by decide)
              have g47 : vals 21 = .bool true := hv 21 (by decide)
              have g48 : vals 22 = .bool true := hv 22 (by decide)
              have g49 : vals 23 = undef := hv 23 (by decide)
              have g50 : vals 24 = undef := hv 24 (by decide)
              have g51 : vals 25 = undef := hv 25 (by decide)
              have g52 : vals 26 = .bool true := hv 26 (by decide)
              clear hv
              simp only [putAll, Act.put, List.setIfInBounds_toArray, List.set_cons_zero, List.set_cons_succ, g26, g27, g28, g29, g30, g31, g32, g33, g34, g35, g36, g37, g38, g39, g40, g41, g42, g43, g44, g45, g46, g47, g48, g49, g50, g51, g52]
              clear g26
              clear g27
              clear g28
              clear g29
              clear g30
              clear g31
              clear g32
              clear g33
              clear g34
              clear g35
              clear g36
              clear g37
              clear g38
              clear g39
              clear g40
              clear g41
              clear g42
              clear g43
              clear g44
              clear g45
              clear g46
              clear g47
              clear g48
              clear g49
              clear g50
              clear g51
              clear g52
              go_wp2_with fail
              go_meet
              exact ⟨by rw [HNO.out]; rfl, Lib.hid hz⟩
          | true =>
            by_cases ht : tm = tp
            case neg =>
              have hno : p.hears m = false := Quo.hears_not fun e => ht (by rw [← HNM.out.2.1, ← HNM.out.2.2.1]; exact e.2.2.1)
              have HNO := Lib.hid hno
              clear hno hld
              refine wp_region_facts (by kernel_rfl) Ext (fun iop v w => match iop with
                  | 0 => v = .bool true
                  | 1 => v = .bool false
                  | 2 => v = .bool false
                  | 3 => v = .bool true
                  | 4 => v = .bool false
                  | 5 => v = .bool false
                  | 6 => v = .bool false
                  | 7 => v = .pointer (some ⟨q, 3, none⟩)
                  | 8 => v = .int .i64 tm
                  | 9 => v = .pointer (some ⟨x, 0, none⟩)
                  | 10 => v = .pointer (some ⟨x, 0, none⟩)
                  | 11 => v = .pointer (some ⟨x, 0, none⟩)
                  | 12 => v = .int .i64 tp
                  | 13 => v = .bool true
                  | 14 => v = .bool true
                  | 15 => v = .bool true
                  | 16 => v = undef
                  | 17 => v = undef
                  | 18 => v = undef
                  | 19 => v = undef
                  | 20 => v = undef
                  | 21 => v = .bool true
                  | 22 => v = .bool true
                  | 23 => v = undef
                  | 24 => v = undef
                  | 25 => v = undef
                  | _ => v = .bool true
                  ) (by kernel_rfl) (fun _ _ _ h k => Ext.trans h k) (fun a => Ext.refl a) (Ext.drew _) ?_ ?_ ?_
              · intro iop v wa wb hF hL
                iterate 26 (rcases iop with _ | iop; exact hF)
                exact hF
              · refine Obls.cons ?_ (Obls.cons ?_ (Obls.cons ?_ (Obls.cons ?_ (Obls.cons ?_ (Obls.cons ?_ (Obls.cons ?_ (Obls.cons ?_ (Obls.cons ?_ (Obls.cons ?_ (Obls.cons ?_ (Obls.cons ?_ (Obls.cons ?_ (Obls.cons ?_ (Obls.cons ?_ (Obls.cons ?_ (Obls.cons ?_ (Obls.cons ?_ (Obls.cons ?_ (Obls.cons ?_ (Obls.cons ?_ (Obls.cons ?_ (Obls.cons ?_ (Obls.cons ?_ (Obls.cons ?_ (Obls.cons ?_ (Obls.cons ?_ (Obls.nil)))))))))))))))))))))))))))
                · intro ev wy hp hl hk hd
                  have e6 : ev (.tmp 6) = .bool true := hk 6 (by decide)
                  clear hk hd
                  exact Yield.mv rfl ⟨Ext.refl _, e6⟩
                · intro ev wy hp hl hk hd
                  have e26 : ev (.tmp 26) = .bool true := hk 26 (by decide)
                  clear hk hd
                  exact Yield.op (v := .bool false) (w' := wy) (by simp [execOp, go_sem, e26]) ⟨Ext.refl _, rfl⟩
                · intro ev wy hp hl hk hd
                  have e27 : ev (.tmp 27) = .bool false := hk 27 (by decide)
                  clear hk hd
                  exact Yield.mv rfl ⟨Ext.refl _, e27⟩
                · intro ev wy hp hl hk hd
                  have e7 : ev (.tmp 7) = .bool true := hk 7 (by decide)
                  clear hk
                  refine ⟨fun _ _ _ => ?_, fun _ hx hne => absurd hx hne⟩
                  clear hd
                  exact Yield.mv rfl ⟨Ext.refl _, e7⟩
                · intro ev wy hp hl hk hd
                  have e29 : ev (.tmp 29) = .bool true := hk 29 (by decide)
                  clear hk
                  refine ⟨fun _ _ _ => ?_, fun _ hx hne => absurd hx hne⟩
                  clear hd
                  exact Yield.op (v := .bool false) (w' := wy) (by simp [execOp, go_sem, e29]) ⟨Ext.refl _, rfl⟩
                · intro ev wy hp hl hk hd
                  have e28 : ev (.tmp 28) = .bool false := hk 28 (by decide)
                  have e30 : ev (.tmp 30) = .bool false := hk 30 (by decide)
                  clear hk hd
                  exact Yield.pick (t := false) rfl e28 ⟨Ext.refl _, e30⟩
                · intro ev wy hp hl hk hd
                  have e31 : ev (.tmp 31) = .bool false := hk 31 (by decide)
                  clear hk hd
                  exact Yield.mv rfl ⟨Ext.refl _, e31⟩
                · intro ev wy hp hl hk hd
                  have e3 : ev (.tmp 3) = .pointer (some ⟨q, 0, none⟩) := hk 3 (by decide)
                  clear hk
                  refine ⟨fun _ _ _ => ?_, fun _ hx hne => absurd hx hne⟩
                  clear hd
                  exact Yield.op (v := .pointer (some ⟨q, 3, none⟩)) (w' := wy) (by simp [execOp, go_sem, e3]) ⟨Ext.refl _, rfl⟩
                · intro ev wy hp hl hk hd
                  have e33 : ev (.tmp 33) = .pointer (some ⟨q, 3, none⟩) := hk 33 (by decide)
                  clear hk
                  refine ⟨fun _ _ _ => ?_, fun _ hx hne => absurd hx hne⟩
                  clear hd
                  exact Yield.load rfl e33 (by simp [go_sem, cellExt hl C3]) ⟨Ext.refl _, rfl⟩
                · intro ev wy hp hl hk hd
                  have e0 : ev (.tmp 0) = .pointer (some ⟨x, 0, none⟩) := hk 0 (by decide)
                  clear hk
                  refine ⟨fun _ _ _ => ?_, fun _ hx hne => absurd hx hne⟩
                  clear hd
                  exact Yield.mv rfl ⟨Ext.refl _, e0⟩
                · intro ev wy hp hl hk hd
                  have e35 : ev (.tmp 35) = .pointer (some ⟨x, 0, none⟩) := hk 35 (by decide)
                  clear hk
                  refine ⟨fun _ _ _ => ?_, fun _ hx hne => absurd hx hne⟩
                  clear hd
                  exact Yield.op (v := .pointer (some ⟨x, 0, none⟩)) (w' := wy) (by simp [execOp, go_sem, e35]) ⟨Ext.refl _, rfl⟩
                · intro ev wy hp hl hk hd
                  have e36 : ev (.tmp 36) = .pointer (some ⟨x, 0, none⟩) := hk 36 (by decide)
                  clear hk
                  refine ⟨fun _ _ _ => ?_, fun _ hx hne => absurd hx hne⟩
                  clear hd
                  exact Yield.op (v := .pointer (some ⟨x, 0, none⟩)) (w' := wy) (by simp [execOp, go_sem, e36]) ⟨Ext.refl _, rfl⟩
                · intro ev wy hp hl hk hd
                  have e37 : ev (.tmp 37) = .pointer (some ⟨x, 0, none⟩) := hk 37 (by decide)
                  clear hk
                  refine ⟨fun _ _ _ => ?_, fun _ hx hne => absurd hx hne⟩
                  clear hd
                  exact Yield.load rfl e37 (by simp [go_sem, cellExt hl x0]) ⟨Ext.refl _, rfl⟩
                · intro ev wy hp hl hk hd
                  have e34 : ev (.tmp 34) = .int .i64 tm := hk 34 (by decide)
                  have e38 : ev (.tmp 38) = .int .i64 tp := hk 38 (by decide)
                  clear hk
                  refine ⟨fun _ _ _ => ?_, fun _ hx hne => absurd hx hne⟩
                  clear hd
                  exact Yield.op (v := .bool true) (w' := wy) (by simp [execOp, go_sem, e34, e38, ht]) ⟨Ext.refl _, rfl⟩
                · intro ev wy hp hl hk hd
                  have e32 : ev (.tmp 32) = .bool false := hk 32 (by decide)
                  have e39 : ev (.tmp 39) = .bool true := hk 39 (by decide)
                  clear hk hd
                  exact Yield.pick (t := false) rfl e32 ⟨Ext.refl _, e39⟩
                · intro ev wy hp hl hk hd
                  have e40 : ev (.tmp 40) = .bool true := hk 40 (by decide)
                  clear hk hd
                  exact Yield.mv rfl ⟨Ext.refl _, e40⟩
                · intro ev wy hp hl hk hd
                  have e3 : ev (.tmp 3) = .pointer (some ⟨q, 0, none⟩) := hk 3 (by decide)
                  clear hk
                  exact ⟨fun x hx he => (by rw [show x = .bool true from hx] at he; cases he), fun _ _ _ => rfl⟩
                · intro ev wy hp hl hk hd
                  have e42 : ev (.tmp 42) = undef := hk 42 (by decide)
                  clear hk
                  exact ⟨fun x hx he => (by rw [show x = .bool true from hx] at he; cases he), fun _ _ _ => rfl⟩
                · intro ev wy hp hl hk hd
                  have e0 : ev (.tmp 0) = .pointer (some ⟨x, 0, none⟩) := hk 0 (by decide)
                  clear hk
                  exact ⟨fun x hx he => (by rw [show x = .bool true from hx] at he; cases he), fun _ _ _ => rfl⟩
                · intro ev wy hp hl hk hd
                  have e44 : ev (.tmp 44) = undef := hk 44 (by decide)
                  clear hk
                  exact ⟨fun x hx he => (by rw [show x = .bool true from hx] at he; cases he), fun _ _ _ => rfl⟩
                · intro ev wy hp hl hk hd
                  have e43 : ev (.tmp 43) = undef := hk 43 (by decide)
                  have e45 : ev (.tmp 45) = undef := hk 45 (by decide)
                  clear hk
                  exact ⟨fun x hx he => (by rw [show x = .bool true from hx] at he; cases he), fun _ _ _ => rfl⟩
                · intro ev wy hp hl hk hd
                  have e41 : ev (.tmp 41) = .bool true := hk 41 (by decide)
                  have e46 : ev (.tmp 46) = undef := hk 46 (by decide)
                  clear hk hd
                  exact Yield.pick (t := true) rfl e41 ⟨Ext.refl _, hp.const _⟩
                · intro ev wy hp hl hk hd
                  have e47 : ev (.tmp 47) = .bool true := hk 47 (by decide)
                  clear hk hd
                  exact Yield.mv rfl ⟨Ext.refl _, e47⟩
                · intro ev wy hp hl hk hd
                  have e3 : ev (.tmp 3) = .pointer (some ⟨q, 0, none⟩) := hk 3 (by decide)
                  clear hk
                  exact ⟨fun x hx he => (by rw [show x = .bool true from hx] at he; cases he), fun _ _ _ => rfl⟩
                · intro ev wy hp hl hk hd
                  have e49 : ev (.tmp 49) = undef := hk 49 (by decide)
                  clear hk
                  exact ⟨fun x hx he => (by rw [show x = .bool true from hx] at he; cases he), fun _ _ _ => rfl⟩
                · intro ev wy hp hl hk hd
                  have e50 : ev (.tmp 50) = undef := hk 50 (by decide)
                  clear hk
                  exact ⟨fun x hx he => (by rw [show x = .bool true from hx] at he; cases he), fun _ _ _ => rfl⟩
                · intro ev wy hp hl hk hd
                  have e48 : ev (.tmp 48) = .bool true := hk 48 (by decide)
                  have e51 : ev (.tmp 51) = undef := hk 51 (by decide)
                  clear hk hd
                  exact Yield.pick (t := true) rfl e48 ⟨Ext.refl _, hp.const _⟩
              · intro vals wz hz hv
                have g26 : vals 0 = .bool true := hv 0 (by decide)
                have g27 : vals 1 = .bool false := hv 1 (by decide)
                have g28 : vals 2 = .bool false := hv 2 (by decide)
                have g29 : vals 3 = .bool true := hv 3 (by decide)
                have g30 : vals 4 = .bool false := hv 4 (by decide)
                have g31 : vals 5 = .bool false := hv 5 (by decide)
                have g32 : vals 6 = .bool false := hv 6 (by decide)
                have g33 : vals 7 = .pointer (some ⟨q, 3, none⟩) := hv 7 (by decide)
                have g34 : vals 8 = .int .i64 tm := hv 8 (by decide)
                have g35 : vals 9 = .pointer (some ⟨x, 0, none⟩) := hv 9 (by decide)
                have g36 : vals 10 = .pointer (some ⟨x, 0, none⟩) := hv 10 (by decide)
                have g37 : vals 11 = .pointer (some ⟨x, 0, none⟩) := hv 11 (by decide)
                have g38 : vals 12 = .int .i64 tp := hv 12 (by decide)
                have g39 : vals 13 = .bool true := hv 13 (by decide)
                have g40 : vals 14 = .bool true := hv 14 (by decide)
                have g41 : vals 15 = .bool true := hv 15 (by decide)
                have g42 : vals 16 = undef := hv 16 (by decide)
                have g43 : vals 17 = undef := hv 17 (by decide)
                have g44 : vals 18 = undef := hv 18 (by decide)
                have g45 : vals 19 = undef := hv 19 (by decide)
                have g46 : vals 20 = undef := hv 20 (by decide)
                have g47 : vals 21 = .bool true := hv 21 (by decide)
                have g48 : vals 22 = .bool true := hv 22 (by decide)
                have g49 : vals 23 = undef := hv 23 (by decide)
                have g50 : vals 24 = undef := hv 24 (by decide)
                have g51 : vals 25 = undef := hv 25 (by decide)
                have g52 : vals 26 = .bool true := hv 26 (by decide)
                clear hv
                simp only [putAll, Act.put, List.setIfInBounds_toArray, List.set_cons_zero, List.set_cons_succ, g26, g27, g28, g29, g30, g31, g32, g33, g34, g35, g36, g37, g38, g39, g40, g41, g42, g43, g44, g45, g46, g47, g48, g49, g50, g51, g52]
                clear g26
                clear g27
                clear g28
                clear g29
                clear g30
                clear g31
                clear g32
                clear g33
                clear g34
                clear g35
                clear g36
                clear g37
                clear g38
                clear g39
                clear g40
                clear g41
                clear g42
                clear g43
                clear g44
                clear g45
                clear g46
                clear g47
                clear g48
                clear g49
                clear g50
                clear g51
                clear g52
                go_wp2_with fail
                go_meet
                exact ⟨by rw [HNO.out]; rfl, Lib.hid hz⟩
            case pos =>
              subst ht
              by_cases hn : nm ≤ (N : Int)
              case neg =>
                have hn2 : (N : Int) < nm := by omega
                have hno : p.hears m = false := Quo.hears_not fun e => hn (by rw [← HNM.out.1, ← HNM.out.2.2.2]; exact e.2.2.2)
                have HNO := Lib.hid hno
                clear hno hld
                refine wp_region_facts (by kernel_rfl) Ext (fun iop v w => match iop with
                    | 0 => v = .bool true
                    | 1 => v = .bool false
                    | 2 => v = .bool false
                    | 3 => v = .bool true
                    | 4 => v = .bool false
                    | 5 => v = .bool false
                    | 6 => v = .bool false
                    | 7 => v = .pointer (some ⟨q, 3, none⟩)
                    | 8 => v = .int .i64 tm
                    | 9 => v = .pointer (some ⟨x, 0, none⟩)
                    | 10 => v = .pointer (some ⟨x, 0, none⟩)
                    | 11 => v = .pointer (some ⟨x, 0, none⟩)
                    | 12 => v = .int .i64 tm
                    | 13 => v = .bool false
                    | 14 => v = .bool false
                    | 15 => v = .bool false
                    | 16 => v = .pointer (some ⟨q, 5, none⟩)
                    | 17 => v = .int .i64 nm
                    | 18 => v = .pointer (some ⟨x, 0, none⟩)
                    | 19 => v = .int .i64 (N : Nat)
                    | 20 => v = .bool true
                    | 21 => v = .bool true
                    | 22 => v = .bool true
                    | 23 => v = undef
                    | 24 => v = undef
                    | 25 => v = undef
                    | _ => v = .bool true
                    ) (by kernel_rfl) (fun _ _ _ h k => Ext.trans h k) (fun a => Ext.refl a) (Ext.drew _) ?_ ?_ ?_
                · intro iop v wa wb hF hL
                  iterate 26 (rcases iop with _ | iop; exact hF)
                  exact hF
                · refine Obls.cons ?_ (Obls.cons ?_ (Obls.cons ?_ (Obls.cons ?_ (Obls.cons ?_ (Obls.cons ?_ (Obls.cons ?_ (Obls.cons ?_ (Obls.cons ?_ (Obls.cons ?_ (Obls.cons ?_ (Obls.cons ?_ (Obls.cons ?_ (Obls.cons ?_ (Obls.cons ?_ (Obls.cons ?_ (Obls.cons ?_ (Obls.cons ?_ (Obls.cons ?_ (Obls.cons ?_ (Obls.cons ?_ (Obls.cons ?_ (Obls.cons ?_ (Obls.cons ?_ (Obls.cons ?_ (Obls.cons ?_ (Obls.cons ?_ (Obls.nil)))))))))))))))))))))))))))
                  · intro ev wy hp hl hk hd
                    have e6 : ev (.tmp 6) = .bool true := hk 6 (by decide)
                    clear hk hd
                    exact Yield.mv rfl ⟨Ext.refl _, e6⟩
                  · intro ev wy hp hl hk hd
                    have e26 : ev (.tmp 26) = .bool true := hk 26 (by decide)
                    clear hk hd
                    exact Yield.op (v := .bool false) (w' := wy) (by simp [execOp, go_sem, e26]) ⟨Ext.refl _, rfl⟩
                  · intro ev wy hp hl hk hd
                    have e27 : ev (.tmp 27) = .bool false := hk 27 (by decide)
                    clear hk hd
                    exact Yield.mv rfl ⟨Ext.refl _, e27⟩
                  · intro ev wy hp hl hk hd
                    have e7 : ev (.tmp 7) = .bool true := hk 7 (by decide)
                    clear hk
                    refine ⟨fun _ _ _ => ?_, fun _ hx hne => absurd hx hne⟩
                    clear hd
                    exact Yield.mv rfl ⟨Ext.refl _, e7⟩
                  · intro ev wy hp hl hk hd
                    have e29 : ev (.tmp 29) = .bool true := hk 29 (by decide)
                    clear hk
                    refine ⟨fun _ _ _ => ?_, fun _ hx hne => absurd hx hne⟩
                    clear hd
                    exact Yield.op (v := .bool false) (w' := wy) (by simp [execOp, go_sem, e29]) ⟨Ext.refl _, rfl⟩
                  · intro ev wy hp hl hk hd
                    have e28 : ev (.tmp 28) = .bool false := hk 28 (by decide)
                    have e30 : ev (.tmp 30) = .bool false := hk 30 (by decide)
                    clear hk hd
                    exact Yield.pick (t := false) rfl e28 ⟨Ext.refl _, e30⟩
                  · intro ev wy hp hl hk hd
                    have e31 : ev (.tmp 31) = .bool false := hk 31 (by decide)
                    clear hk hd
                    exact Yield.mv rfl ⟨Ext.refl _, e31⟩
                  · intro ev wy hp hl hk hd
                    have e3 : ev (.tmp 3) = .pointer (some ⟨q, 0, none⟩) := hk 3 (by decide)
                    clear hk
                    refine ⟨fun _ _ _ => ?_, fun _ hx hne => absurd hx hne⟩
                    clear hd
                    exact Yield.op (v := .pointer (some ⟨q, 3, none⟩)) (w' := wy) (by simp [execOp, go_sem, e3]) ⟨Ext.refl _, rfl⟩
                  · intro ev wy hp hl hk hd
                    have e33 : ev (.tmp 33) = .pointer (some ⟨q, 3, none⟩) := hk 33 (by decide)
                    clear hk
                    refine ⟨fun _ _ _ => ?_, fun _ hx hne => absurd hx hne⟩
                    clear hd
                    exact Yield.load rfl e33 (by simp [go_sem, cellExt hl C3]) ⟨Ext.refl _, rfl⟩
                  · intro ev wy hp hl hk hd
                    have e0 : ev (.tmp 0) = .pointer (some ⟨x, 0, none⟩) := hk 0 (by decide)
                    clear hk
                    refine ⟨fun _ _ _ => ?_, fun _ hx hne => absurd hx hne⟩
                    clear hd
                    exact Yield.mv rfl ⟨Ext.refl _, e0⟩
                  · intro ev wy hp hl hk hd
                    have e35 : ev (.tmp 35) = .pointer (some ⟨x, 0, none⟩) := hk 35 (by decide)
                    clear hk
                    refine ⟨fun _ _ _ => ?_, fun _ hx hne => absurd hx hne⟩
                    clear hd
                    exact Yield.op (v := .pointer (some ⟨x, 0, none⟩)) (w' := wy) (by simp [execOp, go_sem, e35]) ⟨Ext.refl _, rfl⟩
                  · intro ev wy hp hl hk hd
                    have e36 : ev (.tmp 36) = .pointer (some ⟨x, 0, none⟩) := hk 36 (by decide)
                    clear hk
                    refine ⟨fun _ _ _ => ?_, fun _ hx hne => absurd hx hne⟩
                    clear hd
                    exact Yield.op (v := .pointer (some ⟨x, 0, none⟩)) (w' := wy) (by simp [execOp, go_sem, e36]) ⟨Ext.refl _, rfl⟩
                  · intro ev wy hp hl hk hd
                    have e37 : ev (.tmp 37) = .pointer (some ⟨x, 0, none⟩) := hk 37 (by decide)
                    clear hk
                    refine ⟨fun _ _ _ => ?_, fun _ hx hne => absurd hx hne⟩
                    clear hd
                    exact Yield.load rfl e37 (by simp [go_sem, cellExt hl x0]) ⟨Ext.refl _, rfl⟩
                  · intro ev wy hp hl hk hd
                    have e34 : ev (.tmp 34) = .int .i64 tm := hk 34 (by decide)
                    have e38 : ev (.tmp 38) = .int .i64 tm := hk 38 (by decide)
                    clear hk
                    refine ⟨fun _ _ _ => ?_, fun _ hx hne => absurd hx hne⟩
                    clear hd
                    exact Yield.op (v := .bool false) (w' := wy) (by simp [execOp, go_sem, e34, e38]) ⟨Ext.refl _, rfl⟩
                  · intro ev wy hp hl hk hd
                    have e32 : ev (.tmp 32) = .bool false := hk 32 (by decide)
                    have e39 : ev (.tmp 39) = .bool false := hk 39 (by decide)
                    clear hk hd
                    exact Yield.pick (t := false) rfl e32 ⟨Ext.refl _, e39⟩
                  · intro ev wy hp hl hk hd
                    have e40 : ev (.tmp 40) = .bool false := hk 40 (by decide)
                    clear hk hd
                    exact Yield.mv rfl ⟨Ext.refl _, e40⟩
                  · intro ev wy hp hl hk hd
                    have e3 : ev (.tmp 3) = .pointer (some ⟨q, 0, none⟩) := hk 3 (by decide)
                    clear hk
                    refine ⟨fun _ _ _ => ?_, fun _ hx hne => absurd hx hne⟩
                    clear hd
                    exact Yield.op (v := .pointer (some ⟨q, 5, none⟩)) (w' := wy) (by simp [execOp, go_sem, e3]) ⟨Ext.refl _, rfl⟩
                  · intro ev wy hp hl hk hd
                    have e42 : ev (.tmp 42) = .pointer (some ⟨q, 5, none⟩) := hk 42 (by decide)
                    clear hk
                    refine ⟨fun _ _ _ => ?_, fun _ hx hne => absurd hx hne⟩
                    clear hd
                    exact Yield.load rfl e42 (by simp [go_sem, cellExt hl C5]) ⟨Ext.refl _, rfl⟩
                  · intro ev wy hp hl hk hd
                    have e0 : ev (.tmp 0) = .pointer (some ⟨x, 0, none⟩) := hk 0 (by decide)
                    clear hk
                    refine ⟨fun _ _ _ => ?_, fun _ hx hne => absurd hx hne⟩
                    clear hd
                    exact Yield.mv rfl ⟨Ext.refl _, e0⟩
                  · intro ev wy hp hl hk hd
                    have e44 : ev (.tmp 44) = .pointer (some ⟨x, 0, none⟩) := hk 44 (by decide)
                    clear hk
                    refine ⟨fun _ _ _ => ?_, fun _ hx hne => absurd hx hne⟩
                    clear hd
                    refine Yield.call rfl hp Try.func23 rfl (by kernel_rfl) ?_
                    simp only [List.map_toArray, List.map_cons, List.map_nil, e44]
                    exact ((show Calls Try.prog 23 #[.pointer (some ⟨x, 0, none⟩)] wy fun e w' => e = .returned (.int .i64 (N : Nat)) ∧ Ext wy w' from (HLEN.out wy hl).mono fun e w'' h => ⟨h.1, h.2 ▸ Ext.refl _⟩)).mono fun _ _ ⟨he, hb⟩ => ⟨_, he, hb, by first | rfl | simp⟩
                  · intro ev wy hp hl hk hd
                    have e43 : ev (.tmp 43) = .int .i64 nm := hk 43 (by decide)
                    have e45 : ev (.tmp 45) = .int .i64 (N : Nat) := hk 45 (by decide)
                    clear hk
                    refine ⟨fun _ _ _ => ?_, fun _ hx hne => absurd hx hne⟩
                    clear hd
                    exact Yield.op (v := .bool true) (w' := wy) (by simp [execOp, go_sem, e43, e45, hn2]) ⟨Ext.refl _, rfl⟩
                  · intro ev wy hp hl hk hd
                    have e41 : ev (.tmp 41) = .bool false := hk 41 (by decide)
                    have e46 : ev (.tmp 46) = .bool true := hk 46 (by decide)
                    clear hk hd
                    exact Yield.pick (t := false) rfl e41 ⟨Ext.refl _, e46⟩
                  · intro ev wy hp hl hk hd
                    have e47 : ev (.tmp 47) = .bool true := hk 47 (by decide)
                    clear hk hd
                    exact Yield.mv rfl ⟨Ext.refl _, e47⟩
                  · intro ev wy hp hl hk hd
                    have e3 : ev (.tmp 3) = .pointer (some ⟨q, 0, none⟩) := hk 3 (by decide)
                    clear hk
                    exact ⟨fun x hx he => (by rw [show x = .bool true from hx] at he; cases he), fun _ _ _ => rfl⟩
                  · intro ev wy hp hl hk hd
                    have e49 : ev (.tmp 49) = undef := hk 49 (by decide)
                    clear hk
                    exact ⟨fun x hx he => (by rw [show x = .bool true from hx] at he; cases he), fun _ _ _ => rfl⟩
                  · intro ev wy hp hl hk hd
                    have e50 : ev (.tmp 50) = undef := hk 50 (by decide)
                    clear hk
                    exact ⟨fun x hx he => (by rw [show x = .bool true from hx] at he; cases he), fun _ _ _ => rfl⟩
                  · intro ev wy hp hl hk hd
                    have e48 : ev (.tmp 48) = .bool true := hk 48 (by decide)
                    have e51 : ev (.tmp 51) = undef := hk 51 (by decide)
                    clear hk hd
                    exact Yield.pick (t := true) rfl e48 ⟨Ext.refl _, hp.const _⟩
                · intro vals wz hz hv
                  have g26 : vals 0 = .bool true := hv 0 (by decide)
                  have g27 : vals 1 = .bool false := hv 1 (by decide)
                  have g28 : vals 2 = .bool false := hv 2 (by decide)
                  have g29 : vals 3 = .bool true := hv 3 (by decide)
                  have g30 : vals 4 = .bool false := hv 4 (by decide)
                  have g31 : vals 5 = .bool false := hv 5 (by decide)
                  have g32 : vals 6 = .bool false := hv 6 (by decide)
                  have g33 : vals 7 = .pointer (some ⟨q, 3, none⟩) := hv 7 (by decide)
                  have g34 : vals 8 = .int .i64 tm := hv 8 (by decide)
                  have g35 : vals 9 = .pointer (some ⟨x, 0, none⟩) := hv 9 (by decide)
                  have g36 : vals 10 = .pointer (some ⟨x, 0, none⟩) := hv 10 (by decide)
                  have g37 : vals 11 = .pointer (some ⟨x, 0, none⟩) := hv 11 (by decide)
                  have g38 : vals 12 = .int .i64 tm := hv 12 (by decide)
                  have g39 : vals 13 = .bool false := hv 13 (by decide)
                  have g40 : vals 14 = .bool false := hv 14 (by decide)
                  have g41 : vals 15 = .bool false := hv 15 (by decide)
                  have g42 : vals 16 = .pointer (some ⟨q, 5, none⟩) := hv 16 (by decide)
                  have g43 : vals 17 = .int .i64 nm := hv 17 (by decide)
                  have g44 : vals 18 = .pointer (some ⟨x, 0, none⟩) := hv 18 (by decide)
                  have g45 : vals 19 = .int .i64 (N : Nat) := hv 19 (by decide)
                  have g46 : vals 20 = .bool true := hv 20 (by decide)
                  have g47 : vals 21 = .bool true := hv 21 (by decide)
                  have g48 : vals 22 = .bool true := hv 22 (by decide)
                  have g49 : vals 23 = undef := hv 23 (by decide)
                  have g50 : vals 24 = undef := hv 24 (by decide)
                  have g51 : vals 25 = undef := hv 25 (by decide)
                  have g52 : vals 26 = .bool true := hv 26 (by decide)
                  clear hv
                  simp only [putAll, Act.put, List.setIfInBounds_toArray, List.set_cons_zero, List.set_cons_succ, g26, g27, g28, g29, g30, g31, g32, g33, g34, g35, g36, g37, g38, g39, g40, g41, g42, g43, g44, g45, g46, g47, g48, g49, g50, g51, g52]
                  clear g26
                  clear g27
                  clear g28
                  clear g29
                  clear g30
                  clear g31
                  clear g32
                  clear g33
                  clear g34
                  clear g35
                  clear g36
                  clear g37
                  clear g38
                  clear g39
                  clear g40
                  clear g41
                  clear g42
                  clear g43
                  clear g44
                  clear g45
                  clear g46
                  clear g47
                  clear g48
                  clear g49
                  clear g50
                  clear g51
                  clear g52
                  go_wp2_with fail
                  go_meet
                  exact ⟨by rw [HNO.out]; rfl, Lib.hid hz⟩
              case pos =>
                have hn2 : ¬ (N : Int) < nm := by omega
                have hyes : p.hears m = Msg.right m := by
                  unfold Quo.Pr.hears
                  rw [decide_eq_true (show m.src ∈ p.c.seqs ∧ (m.kind = 4 ∨ m.kind = 6) ∧ m.term = p.c.term ∧ m.number ≤ (p.l.length : Int) from ⟨HCASE.out.elim (fun h => h.1) (fun h => absurd h.2.1 (by decide)), by rw [HKD.out]; exact of_decide_eq_true HA.out, by rw [HNM.out.2.1, HNM.out.2.2.1], by rw [HNM.out.1, HNM.out.2.2.2]; exact hn⟩)]
                  rfl
                obtain ⟨rb, hrb⟩ : ∃ z, Msg.right m = z := ⟨_, rfl⟩
                have HYES := Lib.hid (hyes.trans hrb)
                obtain ⟨MV, hMV⟩ : ∃ z : Value, z = .agg (msgCells m (.slice a0 n0 k0) (.slice a1 n1 k1) (.slice a2 n2 k2) (.slice a3 n3 k3)) := ⟨_, rfl⟩
                have HRT := Lib.hid (show ∀ w', Ext W3 w' → Calls Try.prog 45 #[MV] w' fun e w'' => e = .returned (.bool rb) ∧ Ext w' w'' from fun w' h => by
                  rw [hMV]
                  have := right7_any _ m w' (HV.out.below (HE2.out.trans h))
                  rw [hrb] at this
                  exact this)
                have HLD := Lib.hid (show ∀ w', Ext W3 w' → (Instr.loadAt 77 (.pointer (some ⟨q, 0, none⟩))).run Try.prog w' = .ok MV w' from fun w' h => by
                  rw [hMV]
                  exact run_loadAt_mid (P := Try.prog) w' q 0 77 (msgCells m (.slice a0 n0 k0) (.slice a1 n1 k1) (.slice a2 n2 k2) (.slice a3 n3 k3)).toList _ (MsgAt.range (HAT2.out.ext h)) Try.underlying77 rfl (by kernel_rfl))
                clear hyes hrb hn hld hMV
                refine wp_region_facts (by kernel_rfl) Ext (fun iop v w => match iop with
                    | 0 => v = .bool true
                    | 1 => v = .bool false
                    | 2 => v = .bool false
                    | 3 => v = .bool true
                    | 4 => v = .bool false
                    | 5 => v = .bool false
                    | 6 => v = .bool false
                    | 7 => v = .pointer (some ⟨q, 3, none⟩)
                    | 8 => v = .int .i64 tm
                    | 9 => v = .pointer (some ⟨x, 0, none⟩)
                    | 10 => v = .pointer (some ⟨x, 0, none⟩)
                    | 11 => v = .pointer (some ⟨x, 0, none⟩)
                    | 12 => v = .int .i64 tm
                    | 13 => v = .bool false
                    | 14 => v = .bool false
                    | 15 => v = .bool false
                    | 16 => v = .pointer (some ⟨q, 5, none⟩)
                    | 17 => v = .int .i64 nm
                    | 18 => v = .pointer (some ⟨x, 0, none⟩)
                    | 19 => v = .int .i64 (N : Nat)
                    | 20 => v = .bool false
                    | 21 => v = .bool false
                    | 22 => v = .bool false
                    | 23 => v = MV
                    | 24 => v = .bool rb
                    | 25 => v = .bool (!rb)
                    | _ => v = .bool (!rb)
                    ) (by kernel_rfl) (fun _ _ _ h k => Ext.trans h k) (fun a => Ext.refl a) (Ext.drew _) ?_ ?_ ?_
                · intro iop v wa wb hF hL
                  iterate 26 (rcases iop with _ | iop; exact hF)
                  exact hF
                · refine Obls.cons ?_ (Obls.cons ?_ (Obls.cons ?_ (Obls.cons ?_ (Obls.cons ?_ (Obls.cons ?_ (Obls.cons ?_ (Obls.cons ?_ (Obls.cons ?_ (Obls.cons ?_ (Obls.cons ?_ (Obls.cons ?_ (Obls.cons ?_ (Obls.cons ?_ (Obls.cons ?_ (Obls.cons ?_ (Obls.cons ?_ (Obls.cons ?_ (Obls.cons ?_ (Obls.cons ?_ (Obls.cons ?_ (Obls.cons ?_ (Obls.cons ?_ (Obls.cons ?_ (Obls.cons ?_ (Obls.cons ?_ (Obls.cons ?_ (Obls.nil)))))))))))))))))))))))))))
                  · intro ev wy hp hl hk hd
                    have e6 : ev (.tmp 6) = .bool true := hk 6 (by decide)
                    clear hk hd
                    exact Yield.mv rfl ⟨Ext.refl _, e6⟩
                  · intro ev wy hp hl hk hd
                    have e26 : ev (.tmp 26) = .bool true := hk 26 (by decide)
                    clear hk hd
                    exact Yield.op (v := .bool false) (w' := wy) (by simp [execOp, go_sem, e26]) ⟨Ext.refl _, rfl⟩
                  · intro ev wy hp hl hk hd
                    have e27 : ev (.tmp 27) = .bool false := hk 27 (by decide)
                    clear hk hd
                    exact Yield.mv rfl ⟨Ext.refl _, e27⟩
                  · intro ev wy hp hl hk hd
                    have e7 : ev (.tmp 7) = .bool true := hk 7 (by decide)
                    clear hk
                    refine ⟨fun _ _ _ => ?_, fun _ hx hne => absurd hx hne⟩
                    clear hd
                    exact Yield.mv rfl ⟨Ext.refl _, e7⟩
                  · intro ev wy hp hl hk hd
                    have e29 : ev (.tmp 29) = .bool true := hk 29 (by decide)
                    clear hk
                    refine ⟨fun _ _ _ => ?_, fun _ hx hne => absurd hx hne⟩
                    clear hd
                    exact Yield.op (v := .bool false) (w' := wy) (by simp [execOp, go_sem, e29]) ⟨Ext.refl _, rfl⟩
                  · intro ev wy hp hl hk hd
                    have e28 : ev (.tmp 28) = .bool false := hk 28 (by decide)
                    have e30 : ev (.tmp 30) = .bool false := hk 30 (by decide)
                    clear hk hd
                    exact Yield.pick (t := false) rfl e28 ⟨Ext.refl _, e30⟩
                  · intro ev wy hp hl hk hd
                    have e31 : ev (.tmp 31) = .bool false := hk 31 (by decide)
                    clear hk hd
                    exact Yield.mv rfl ⟨Ext.refl _, e31⟩
                  · intro ev wy hp hl hk hd
                    have e3 : ev (.tmp 3) = .pointer (some ⟨q, 0, none⟩) := hk 3 (by decide)
                    clear hk
                    refine ⟨fun _ _ _ => ?_, fun _ hx hne => absurd hx hne⟩
                    clear hd
                    exact Yield.op (v := .pointer (some ⟨q, 3, none⟩)) (w' := wy) (by simp [execOp, go_sem, e3]) ⟨Ext.refl _, rfl⟩
                  · intro ev wy hp hl hk hd
                    have e33 : ev (.tmp 33) = .pointer (some ⟨q, 3, none⟩) := hk 33 (by decide)
                    clear hk
                    refine ⟨fun _ _ _ => ?_, fun _ hx hne => absurd hx hne⟩
                    clear hd
                    exact Yield.load rfl e33 (by simp [go_sem, cellExt hl C3]) ⟨Ext.refl _, rfl⟩
                  · intro ev wy hp hl hk hd
                    have e0 : ev (.tmp 0) = .pointer (some ⟨x, 0, none⟩) := hk 0 (by decide)
                    clear hk
                    refine ⟨fun _ _ _ => ?_, fun _ hx hne => absurd hx hne⟩
                    clear hd
                    exact Yield.mv rfl ⟨Ext.refl _, e0⟩
                  · intro ev wy hp hl hk hd
                    have e35 : ev (.tmp 35) = .pointer (some ⟨x, 0, none⟩) := hk 35 (by decide)
                    clear hk
                    refine ⟨fun _ _ _ => ?_, fun _ hx hne => absurd hx hne⟩
                    clear hd
                    exact Yield.op (v := .pointer (some ⟨x, 0, none⟩)) (w' := wy) (by simp [execOp, go_sem, e35]) ⟨Ext.refl _, rfl⟩
                  · intro ev wy hp hl hk hd
                    have e36 : ev (.tmp 36) = .pointer (some ⟨x, 0, none⟩) := hk 36 (by decide)
                    clear hk
                    refine ⟨fun _ _ _ => ?_, fun _ hx hne => absurd hx hne⟩
                    clear hd
                    exact Yield.op (v := .pointer (some ⟨x, 0, none⟩)) (w' := wy) (by simp [execOp, go_sem, e36]) ⟨Ext.refl _, rfl⟩
                  · intro ev wy hp hl hk hd
                    have e37 : ev (.tmp 37) = .pointer (some ⟨x, 0, none⟩) := hk 37 (by decide)
                    clear hk
                    refine ⟨fun _ _ _ => ?_, fun _ hx hne => absurd hx hne⟩
                    clear hd
                    exact Yield.load rfl e37 (by simp [go_sem, cellExt hl x0]) ⟨Ext.refl _, rfl⟩
                  · intro ev wy hp hl hk hd
                    have e34 : ev (.tmp 34) = .int .i64 tm := hk 34 (by decide)
                    have e38 : ev (.tmp 38) = .int .i64 tm := hk 38 (by decide)
                    clear hk
                    refine ⟨fun _ _ _ => ?_, fun _ hx hne => absurd hx hne⟩
                    clear hd
                    exact Yield.op (v := .bool false) (w' := wy) (by simp [execOp, go_sem, e34, e38]) ⟨Ext.refl _, rfl⟩
                  · intro ev wy hp hl hk hd
                    have e32 : ev (.tmp 32) = .bool false := hk 32 (by decide)
                    have e39 : ev (.tmp 39) = .bool false := hk 39 (by decide)
                    clear hk hd
                    exact Yield.pick (t := false) rfl e32 ⟨Ext.refl _, e39⟩
                  · intro ev wy hp hl hk hd
                    have e40 : ev (.tmp 40) = .bool false := hk 40 (by decide)
                    clear hk hd
                    exact Yield.mv rfl ⟨Ext.refl _, e40⟩
                  · intro ev wy hp hl hk hd
                    have e3 : ev (.tmp 3) = .pointer (some ⟨q, 0, none⟩) := hk 3 (by decide)
                    clear hk
                    refine ⟨fun _ _ _ => ?_, fun _ hx hne => absurd hx hne⟩
                    clear hd
                    exact Yield.op (v := .pointer (some ⟨q, 5, none⟩)) (w' := wy) (by simp [execOp, go_sem, e3]) ⟨Ext.refl _, rfl⟩
                  · intro ev wy hp hl hk hd
                    have e42 : ev (.tmp 42) = .pointer (some ⟨q, 5, none⟩) := hk 42 (by decide)
                    clear hk
                    refine ⟨fun _ _ _ => ?_, fun _ hx hne => absurd hx hne⟩
                    clear hd
                    exact Yield.load rfl e42 (by simp [go_sem, cellExt hl C5]) ⟨Ext.refl _, rfl⟩
                  · intro ev wy hp hl hk hd
                    have e0 : ev (.tmp 0) = .pointer (some ⟨x, 0, none⟩) := hk 0 (by decide)
                    clear hk
                    refine ⟨fun _ _ _ => ?_, fun _ hx hne => absurd hx hne⟩
                    clear hd
                    exact Yield.mv rfl ⟨Ext.refl _, e0⟩
                  · intro ev wy hp hl hk hd
                    have e44 : ev (.tmp 44) = .pointer (some ⟨x, 0, none⟩) := hk 44 (by decide)
                    clear hk
                    refine ⟨fun _ _ _ => ?_, fun _ hx hne => absurd hx hne⟩
                    clear hd
                    refine Yield.call rfl hp Try.func23 rfl (by kernel_rfl) ?_
                    simp only [List.map_toArray, List.map_cons, List.map_nil, e44]
                    exact ((show Calls Try.prog 23 #[.pointer (some ⟨x, 0, none⟩)] wy fun e w' => e = .returned (.int .i64 (N : Nat)) ∧ Ext wy w' from (HLEN.out wy hl).mono fun e w'' h => ⟨h.1, h.2 ▸ Ext.refl _⟩)).mono fun _ _ ⟨he, hb⟩ => ⟨_, he, hb, by first | rfl | simp⟩
                  · intro ev wy hp hl hk hd
                    have e43 : ev (.tmp 43) = .int .i64 nm := hk 43 (by decide)
                    have e45 : ev (.tmp 45) = .int .i64 (N : Nat) := hk 45 (by decide)
                    clear hk
                    refine ⟨fun _ _ _ => ?_, fun _ hx hne => absurd hx hne⟩
                    clear hd
                    exact Yield.op (v := .bool false) (w' := wy) (by simp [execOp, go_sem, e43, e45, hn2]) ⟨Ext.refl _, rfl⟩
                  · intro ev wy hp hl hk hd
                    have e41 : ev (.tmp 41) = .bool false := hk 41 (by decide)
                    have e46 : ev (.tmp 46) = .bool false := hk 46 (by decide)
                    clear hk hd
                    exact Yield.pick (t := false) rfl e41 ⟨Ext.refl _, e46⟩
                  · intro ev wy hp hl hk hd
                    have e47 : ev (.tmp 47) = .bool false := hk 47 (by decide)
                    clear hk hd
                    exact Yield.mv rfl ⟨Ext.refl _, e47⟩
                  · intro ev wy hp hl hk hd
                    have e3 : ev (.tmp 3) = .pointer (some ⟨q, 0, none⟩) := hk 3 (by decide)
                    clear hk
                    refine ⟨fun _ _ _ => ?_, fun _ hx hne => absurd hx hne⟩
                    clear hd
                    exact Yield.load rfl e3 (HLD.out wy hl) ⟨Ext.refl _, rfl⟩
                  · intro ev wy hp hl hk hd
                    have e49 : ev (.tmp 49) = MV := hk 49 (by decide)
                    clear hk
                    refine ⟨fun _ _ _ => ?_, fun _ hx hne => absurd hx hne⟩
                    clear hd
                    refine Yield.call rfl hp Try.func45 rfl (by kernel_rfl) ?_
                    simp only [List.map_toArray, List.map_cons, List.map_nil, e49]
                    exact (HRT.out wy hl).mono fun _ _ ⟨he, hb⟩ => ⟨_, he, hb, by first | rfl | simp⟩
                  · intro ev wy hp hl hk hd
                    have e50 : ev (.tmp 50) = .bool rb := hk 50 (by decide)
                    clear hk
                    refine ⟨fun _ _ _ => ?_, fun _ hx hne => absurd hx hne⟩
                    clear hd
                    exact Yield.op (v := .bool (!rb)) (w' := wy) (by simp [execOp, go_sem, e50]) ⟨Ext.refl _, rfl⟩
                  · intro ev wy hp hl hk hd
                    have e48 : ev (.tmp 48) = .bool false := hk 48 (by decide)
                    have e51 : ev (.tmp 51) = .bool (!rb) := hk 51 (by decide)
                    clear hk hd
                    exact Yield.pick (t := false) rfl e48 ⟨Ext.refl _, e51⟩
                · intro vals wz hz hv
                  have g26 : vals 0 = .bool true := hv 0 (by decide)
                  have g27 : vals 1 = .bool false := hv 1 (by decide)
                  have g28 : vals 2 = .bool false := hv 2 (by decide)
                  have g29 : vals 3 = .bool true := hv 3 (by decide)
                  have g30 : vals 4 = .bool false := hv 4 (by decide)
                  have g31 : vals 5 = .bool false := hv 5 (by decide)
                  have g32 : vals 6 = .bool false := hv 6 (by decide)
                  have g33 : vals 7 = .pointer (some ⟨q, 3, none⟩) := hv 7 (by decide)
                  have g34 : vals 8 = .int .i64 tm := hv 8 (by decide)
                  have g35 : vals 9 = .pointer (some ⟨x, 0, none⟩) := hv 9 (by decide)
                  have g36 : vals 10 = .pointer (some ⟨x, 0, none⟩) := hv 10 (by decide)
                  have g37 : vals 11 = .pointer (some ⟨x, 0, none⟩) := hv 11 (by decide)
                  have g38 : vals 12 = .int .i64 tm := hv 12 (by decide)
                  have g39 : vals 13 = .bool false := hv 13 (by decide)
                  have g40 : vals 14 = .bool false := hv 14 (by decide)
                  have g41 : vals 15 = .bool false := hv 15 (by decide)
                  have g42 : vals 16 = .pointer (some ⟨q, 5, none⟩) := hv 16 (by decide)
                  have g43 : vals 17 = .int .i64 nm := hv 17 (by decide)
                  have g44 : vals 18 = .pointer (some ⟨x, 0, none⟩) := hv 18 (by decide)
                  have g45 : vals 19 = .int .i64 (N : Nat) := hv 19 (by decide)
                  have g46 : vals 20 = .bool false := hv 20 (by decide)
                  have g47 : vals 21 = .bool false := hv 21 (by decide)
                  have g48 : vals 22 = .bool false := hv 22 (by decide)
                  have g49 : vals 23 = MV := hv 23 (by decide)
                  have g50 : vals 24 = .bool rb := hv 24 (by decide)
                  have g51 : vals 25 = .bool (!rb) := hv 25 (by decide)
                  have g52 : vals 26 = .bool (!rb) := hv 26 (by decide)
                  clear hv
                  simp only [putAll, Act.put, List.setIfInBounds_toArray, List.set_cons_zero, List.set_cons_succ, g26, g27, g28, g29, g30, g31, g32, g33, g34, g35, g36, g37, g38, g39, g40, g41, g42, g43, g44, g45, g46, g47, g48, g49, g50, g51, g52]
                  clear g26
                  clear g27
                  clear g28
                  clear g29
                  clear g30
                  clear g31
                  clear g32
                  clear g33
                  clear g34
                  clear g35
                  clear g36
                  clear g37
                  clear g38
                  clear g39
                  clear g40
                  clear g41
                  clear g42
                  clear g43
                  clear g44
                  clear g45
                  clear g46
                  clear g47
                  clear g48
                  clear g49
                  clear g50
                  clear g51
                  clear g52
                  go_wp2_with fail
                  go_meet
                  exact ⟨by rw [HYES.out], Lib.hid hz⟩
      case rest =>
        obtain ⟨rfl, HX4⟩ := hcut
        obtain ⟨W4, hw4⟩ : ∃ z, z = wc := ⟨_, rfl⟩
        subst hw4
        have HE4 := Lib.hid (HE2.out.trans HX4.out)
        clear C3 C5 x0 hld
        obtain ⟨hb, hhb⟩ : ∃ z, p.hears m = z := ⟨_, rfl⟩
        rw [hhb]
        have HHB := Lib.hid hhb
        clear hhb
        cases hb with
        | false =>
          go_wp2_with fail
          go_ret
          refine ⟨by rw [HHB.out]; rfl, ?_⟩
          unfold Quo.Pr.hear
          rw [if_neg (by rw [HHB.out]; simp)]
          exact LeavesPr.refl ⟨_, _, _, H.out⟩ HE4.out
        | true =>
          have hkk : m.src ∈ p.c.seqs ∧ k = p.f m.src := by
            have h1 := HHB.out
            unfold Quo.Pr.hears at h1
            simp only [Bool.and_eq_true, decide_eq_true_eq] at h1
            rcases HCASE.out with ⟨h, _, h2⟩ | ⟨h, _⟩
            · exact ⟨h, h2⟩
            · exact absurd h1.1.1 h
          have HKK := Lib.hid hkk
          have hd4 := Ext.drew W4
          have hP4 := H.out.ext (HE4.out.trans hd4)
          obtain ⟨m1, m2, hm1, hm2⟩ := known12_upd (Term.unlike_ok (Term.right_ok H.out.ok.right).2.2.2.2).2 (f := p.f) (k := m.number) hkk.1
          have hmap := hP4.at'.map
          rw [hm1] at hmap
          obtain ⟨o, hrun, hmapn⟩ := hmap.set int12_keyed Try.underlying98 (.int .i64 (max (p.f m.src) m.number))
          rw [← hm2] at hmapn
          have HMAP := Lib.hid hmapn
          have HP4 := Lib.hid hP4
          have hat4 := HAT2.out.ext (HX4.out.trans hd4)
          have c1 : W4.drew.cell? ⟨q, 1, none⟩ = some (.int .i64 m.src) := hat4.head.2.1
          have c5 : W4.drew.cell? ⟨q, 5, none⟩ = some (.int .i64 m.number) := hat4.head.2.2.2.2.2.1
          have x4 : W4.drew.cell? ⟨x, 4, none⟩ = some (.map (some kb)) := cell_of_heap hP4.at'.heap 4
          have HD4 := Lib.hid (HE4.out.trans hd4)
          have hWB := IsPrS.hear12 hP4 m HHB.out o HMAP.out
          have hk2 := hkk.2
          subst hk2
          obtain ⟨src, hsrc'⟩ : ∃ z, m.src = z := ⟨_, rfl⟩
          obtain ⟨fs, hfs⟩ : ∃ z, p.f src = z := ⟨_, rfl⟩
          obtain ⟨num, hnum⟩ : ∃ z, m.number = z := ⟨_, rfl⟩
          rw [hsrc', hfs, hnum] at hrun
          rw [hnum] at c5
          rw [hsrc'] at c1
          rw [hsrc', hfs]
          have HWB := Lib.hid hWB
          have HBK := Lib.hid (butBlock W4.drew kb o)
          obtain ⟨W5, hW5⟩ : ∃ z, setBlock W4.drew kb o = z := ⟨_, rfl⟩
          rw [hW5] at hrun HWB HBK
          clear hm1 hm2 hmap hmapn hkk hat4 hd4 hsrc' hfs hnum hWB hP4 HMAP
          have HW5 := Lib.hid hW5
          clear hW5
          go_upto_region 5 with fail
          go_cut [] (fun wx => wx = W5)
          case first =>
            by_cases hlt : fs < num
            · have hmx : max fs num = num := by omega
              rw [hmx] at hrun
              go_still_tail 10, (by kernel_rfl)
              change wpList _ _ _ _ _ W4.drew
              go_wp2_with fail
              go_meet
              rfl
            · have hmx : max fs num = fs := by omega
              rw [hmx] at hrun
              go_still_tail 10, (by kernel_rfl)
              change wpList _ _ _ _ _ W4.drew
              go_wp2_with fail
              go_meet
              rfl
          case rest =>
            subst hcut
            have y5 : wc.cell? ⟨x, 5, none⟩ = some (.bool p.is) := cell_of_heap (HWB.out.1.trans HP4.out.at'.heap) 5
            have z5 : wc.frozen? ⟨x, 5, none⟩ = false := frozen_of_heap (HWB.out.1.trans HP4.out.at'.heap) 5
            have hq6 := HAT2.out.ext (HX4.out.trans (Ext.drew W4))
            have hqk : q ≠ kb := fun e => by
              have h1 := (H.out.lt H.out.sk).2
              have h2 := HQ.out
              omega
            have y6 : wc.cell? ⟨q, 6, none⟩ = some (.bool m.is) := (hq6.but HBK.out hqk).head.2.2.2.2.2.2
            have hfin : ∀ e, e = .returned (.bool true) → GivesHeard12 B S K x w (p.hear m) (p.hears m) e (wc.setCell ⟨x, 5, none⟩ (.bool (p.is || m.is))) := fun e he => ⟨by rw [HHB.out]; exact he, S, K, ⟨_, _, _, HWB.out.2.1⟩, (TwS.ext HD4.out).trans HWB.out.2.2, fun _ _ h => h, fun _ _ h => h⟩
            obtain ⟨i1, hi1⟩ : ∃ z, p.is = z := ⟨_, rfl⟩
            obtain ⟨i2, hi2⟩ : ∃ z, m.is = z := ⟨_, rfl⟩
            rw [hi1, hi2] at hfin
            rw [hi1] at y5
            rw [hi2] at y6
            have HFIN := Lib.hid hfin
            clear hq6 hqk hfin hi1 hi2 x4 c1 c5 hrun
            cases i1 with
            | true =>
              go_wp2_with fail
              go_ret
              exact HFIN.out _ rfl
            | false =>
              cases i2 with
              | true =>
                go_wp2_with fail
                go_ret
                exact HFIN.out _ rfl
              | false =>
                go_wp2_with fail
                go_ret
                exact HFIN.out _ rfl
end Go.Proofs.Ytnoeconcpgdjlaa
