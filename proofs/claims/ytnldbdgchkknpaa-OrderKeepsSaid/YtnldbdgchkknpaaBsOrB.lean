/-
  Merged: Layer 15, the program: Add.
-/
import Derived.Test.YtnldbdgchkknpaaBsOrA

namespace Go.Proofs.Ytnldbdgchkknpaa
set_option linter.unusedSimpArgs false
set_option linter.unusedVariables false
set_option maxRecDepth 100000
open Go.RowKit
/- Layer 15, the program: Add. -/
/-- The cut behind an entry. -/
def Ord.now (cs : List (List Int)) (e : Ent.E) : List Int := if e.kind = 1 then e.cut else Ord.last cs
def Ord.addErr (cs : List (List Int)) (e : Ent.E) : Int :=
  if Ent.right e = true ∧ e.number = (cs.length : Int) ∧ Vec.covers (Ord.now cs e) (Ord.last cs) = true then (if 1000000 < Vec.total (Ord.now cs e) then 1 else 0) else 150
def Ord.add (cs : List (List Int)) (e : Ent.E) : List (List Int) := if Ord.addErr cs e = 0 then cs ++ [Ord.now cs e] else cs
theorem Ord.now_cut {cs : List (List Int)} {e : Ent.E} (h : e.kind = 1) : Ord.now cs e = e.cut := if_pos h
theorem Ord.now_trim {cs : List (List Int)} {e : Ent.E} (h : ¬ e.kind = 1) : Ord.now cs e = Ord.last cs := if_neg h
theorem Ord.err_form {cs : List (List Int)} {e : Ent.E} (h : ¬ (Ent.right e = true ∧ e.number = (cs.length : Int) ∧ Vec.covers (Ord.now cs e) (Ord.last cs) = true)) : Ord.addErr cs e = 150 ∧ Ord.add cs e = cs := by
  have h1 : Ord.addErr cs e = 150 := if_neg h
  exact ⟨h1, by unfold Ord.add; rw [if_neg (by rw [h1]; decide)]⟩
theorem Ord.err_many {cs : List (List Int)} {e : Ent.E} (h : Ent.right e = true ∧ e.number = (cs.length : Int) ∧ Vec.covers (Ord.now cs e) (Ord.last cs) = true) (h2 : 1000000 < Vec.total (Ord.now cs e)) : Ord.addErr cs e = 1 ∧ Ord.add cs e = cs := by
  have h1 : Ord.addErr cs e = 1 := by unfold Ord.addErr; rw [if_pos h, if_pos h2]
  exact ⟨h1, by unfold Ord.add; rw [if_neg (by rw [h1]; decide)]⟩
theorem Ord.err_none {cs : List (List Int)} {e : Ent.E} (h : Ent.right e = true ∧ e.number = (cs.length : Int) ∧ Vec.covers (Ord.now cs e) (Ord.last cs) = true) (h2 : ¬ 1000000 < Vec.total (Ord.now cs e)) : Ord.addErr cs e = 0 ∧ Ord.add cs e = cs ++ [Ord.now cs e] := by
  have h1 : Ord.addErr cs e = 0 := by unfold Ord.addErr; rw [if_pos h, if_neg h2]
  exact ⟨h1, by unfold Ord.add; rw [if_pos h1]⟩
theorem Vec.covers_ok {a b : List Int} (h : Vec.covers a b = true) : Vec.right a = true ∧ Vec.right b = true ∧ Ord.Le b a := by
  unfold Vec.covers at h
  simp only [Bool.and_eq_true] at h
  obtain ⟨h1, h2, h3⟩ := Vec.kind_ok h.1
  refine ⟨h1, h2, h3.symm, fun s q r => ?_⟩
  exact (Vec.ge_iff a b h3).1 h.2 s r q
theorem Ord.Ok.snoc {sh : Nat} {cs : List (List Int)} {c : List Int} (h : Ord.Ok sh cs) (hc : Vec.covers c (Ord.last cs) = true) (hm : c.sum ≤ 1000000) : Ord.Ok sh (cs ++ [c]) := by
  obtain ⟨h1, h2, h3⟩ := Vec.covers_ok hc
  rw [h.last_is] at h3
  obtain ⟨bs, rfl, hU⟩ := h.ex
  refine ⟨⟨bs ++ [c], rfl, Ord.Up.snoc bs _ c hU ?_⟩, fun x hx => ?_, fun x hx => ?_⟩
  · rw [List.getLast_eq_getElem]
    exact h3
  · rcases List.mem_append.1 hx with hx | hx
    · exact h.right x hx
    · rw [List.mem_singleton.1 hx]; exact h1
  · rcases List.mem_append.1 hx with hx | hx
    · exact h.most x hx
    · rw [List.mem_singleton.1 hx]; exact hm

section
variable {P : Program} {ops : Array Oper} {Q : Exit → Act → World → Prop} {rest : List Oper} {op : Oper} {a : Act} {w : World}
theorem opAny15 {w' : World} (v : Value) {o : Op} (ho : op.op = o) (hw : Region.wanted op (yielded ops a.tmps) = true) (hr : (execOp a.eval op).run P w = .ok (.value v) w') (hk : wpList P ops Q rest (a.put op.dst v) w') : wpList P ops Q (op :: rest) a w :=
  BigFrame.wpList_want hw fun K hK => by
    unfold Oper.wp
    rw [hr]
    exact hK _ _ hk
end
theorem slice_row15 (w : World) (a : Option Addr) (n c : Nat) : Sl (w.alloc (.cells #[.slice a n c] 46)) (.slice (some ⟨w.heap.size, 0, none⟩) 1 1) [.slice a n c] := slOne w _ 46

/-- What Add leaves. -/
def GivesAdd15 (B p : Nat) (cs : List (List Int)) (e : Ent.E) (w : World) (x : Ending) (w' : World) : Prop := x = .returned (.int .i64 (Ord.addErr cs e)) ∧ IsOrd w' B p (Ord.add cs e) ∧ Below B w w'
set_option maxHeartbeats 4000000 in
theorem add15_any {w : World} {B p : Nat} {cs : List (List Int)} (v : Value) (e : Ent.E) (h : IsOrd w B p cs) (hv : IsEnt w v e) (hlen : e.cut.length ≤ 17592186044416) (hcs : cs.length ≤ 4398046511104) (hB : B ≤ w.heap.size) :
    Calls Try.prog 18 #[.pointer (some ⟨p, 0, none⟩), v] w (GivesAdd15 B p cs e w) := by
  obtain ⟨g, c, h1, h2, h3, h4⟩ := h.open
  obtain ⟨sh, ho⟩ := h.ok
  have hp := ho.pos
  obtain ⟨m, hm⟩ : ∃ m, cs.length = m + 1 := ⟨cs.length - 1, by omega⟩
  have HV := Lib.hid hv
  obtain ⟨N, K, ct, t3, t4, t5⟩ := e
  obtain ⟨tv, rfl, hti⟩ := hv
  obtain ⟨ta, tn, tc, rfl⟩ := hti.isSlice
  have HTI := Lib.hid hti
  have HH := Lib.hid h
  have HM := Lib.hid hm
  have HMS := Lib.hid hcs
  have HO := Lib.hid ho
  clear h1 h2 h3 h4 hti ho
  unfold entV at HV ⊢
  simp only at HTI HV hlen ⊢
  obtain ⟨q, hq⟩ : ∃ q, w.heap.size = q := ⟨_, rfl⟩
  obtain ⟨w1, hw1⟩ : ∃ w1, w.alloc (.cells #[.int .i64 N, .int .i64 K, .slice ta tn tc, .int .i64 t3, .int .i64 t4, .int .i64 t5] 55) = w1 := ⟨_, rfl⟩
  have hE1 : Ext w w1 := by rw [← hw1]; exact Ext.alloc _ _
  have hat : EntAt 55 w1 q (.slice ta tn tc) ⟨N, K, ct, t3, t4, t5⟩ := by rw [← hw1, ← hq]; exact heap_alloc_new w _
  have HQ := Lib.hid (And.intro hq (And.intro hw1 (And.intro hE1 hat)))
  clear hq hw1 hE1 hat h
  go_enter Try.func18, Try.ntmps18
  go_upto_region 1 with fail
  rw [HQ.out.1, HQ.out.2.1]
  go_wp2_with fail
  refine (last15_any (HH.out.ext HQ.out.2.2.1)).mono ?_
  rintro x w2 ⟨u, rfl, hu, hE2⟩
  obtain ⟨ua, un, uc, rfl⟩ := hu.slice
  have HU := Lib.hid hu
  have HE2 := Lib.hid (HQ.out.2.2.1.trans hE2)
  have hat2 := HQ.out.2.2.2.ext hE2
  have HAT2 := Lib.hid hat2
  clear hu hE2
  obtain ⟨b0, b1, b2, b3, b4, b5⟩ := hat2.cells
  clear hat2
  go_upto_if 10 with fail
  go_cut [5] (fun s5 wx => ∃ na nn nc, s5 = .slice na nn nc ∧ Hid (OwnI wx B (.slice na nn nc) (Ord.now cs ⟨N, K, ct, t3, t4, t5⟩) ∧ Ext w2 wx))
  case first =>
    by_cases hk : K = 1
    · subst hk
      go_wp2_with fail
      refine (cloneIw_any _ ct w2 (HTI.out.below HE2.out) hlen).mono ?_
      rintro x w3 ⟨u, rfl, hO3, hE3⟩
      obtain ⟨a3, n3, c3, rfl⟩ := ownSlice hO3
      have HO3 := Lib.hid (And.intro hO3 hE3)
      clear hO3 hE3
      go_wp2_with fail
      go_meet
      exact ⟨_, _, _, rfl, Lib.hid ⟨by rw [Ord.now_cut rfl]; exact rowLower HO3.out.1 (Nat.le_trans hB HE2.out.size), HO3.out.2⟩⟩
    · go_wp2_with fail
      go_meet
      exact ⟨_, _, _, rfl, Lib.hid ⟨by rw [Ord.now_trim hk]; exact HU.out, Ext.refl _⟩⟩
  case rest =>
    obtain ⟨na, nn, nc, rfl, H⟩ := hcut
    obtain ⟨w3, hw3⟩ : ∃ z, z = wc := ⟨_, rfl⟩
    subst hw3
    have HE3 := Lib.hid (HE2.out.trans H.out.2)
    have HI3 := Lib.hid (HH.out.ext HE3.out)
    have EAT := Lib.hid (HAT2.out.ext H.out.2)
    have HNOW := Lib.hid H.out.1.ints
    have HWR := Lib.hid (show IntKind.i64.wrap ((m : Int) + 1) = (m : Int) + 1 from IntWalk.i64_in _ (by omega))
    obtain ⟨NOW, hNOW⟩ : ∃ z, Ord.now cs ⟨N, K, ct, t3, t4, t5⟩ = z := ⟨_, rfl⟩
    rw [hNOW] at HNOW H
    have HNE2 := Lib.hid hNOW
    have HEN := Lib.hid (fun (wy : World) (hy : Ext w3 wy) => (entries15_any (HI3.out.ext hy) HM.out).mono fun e w' q => (⟨q.1, q.2 ▸ Ext.refl wy⟩ : e = .returned (.int .i64 (m : Int)) ∧ Ext wy w'))
    have HLA := Lib.hid (fun (wy : World) (hy : Ext w3 wy) => (last15_any (HI3.out.ext hy)).mono fun e w' ⟨u, q1, q2, q3⟩ => (⟨u, q1, q3, q2.slice, q2.ints⟩ : ∃ u, e = Ending.returned u ∧ Ext wy w' ∧ (∃ a n c, u = Value.slice a n c) ∧ Ints w' u (Ord.last cs)))
    obtain ⟨rb, hrb⟩ : ∃ z, Ent.right ⟨N, K, ct, t3, t4, t5⟩ = z := ⟨_, rfl⟩
    have HRT := Lib.hid (fun (wy : World) (hy : Ext w3 wy) => right5_any (entV (.slice ta tn tc) ⟨N, K, ct, t3, t4, t5⟩) ⟨N, K, ct, t3, t4, t5⟩ wy ⟨_, rfl, HTI.out.below (HE3.out.trans hy)⟩)
    rw [hrb] at HRT
    unfold entV at HRT
    simp only at HRT
    have HRB := Lib.hid hrb
    have HFIN := Lib.hid (fun wx (hx : Ext w3 wx) (he : Ord.add cs ⟨N, K, ct, t3, t4, t5⟩ = cs) => (show IsOrd wx B p (Ord.add cs ⟨N, K, ct, t3, t4, t5⟩) ∧ Below B w wx from ⟨by rw [he]; exact HI3.out.ext hx, (HE3.out.trans hx).mono hB⟩))
    clear hrb
    go_wp2_with fail
    cases rb with
    | false =>
      have HX := Lib.hid (Ord.err_form (cs := cs) (e := ⟨N, K, ct, t3, t4, t5⟩) (fun hh => by have := HRB.out; rw [hh.1] at this; cases this))
      refine wp_region_facts (by kernel_rfl) Ext (fun iop v w => match iop with
          | 0 => v = .agg #[.int .i64 N, .int .i64 K, .slice ta tn tc, .int .i64 t3, .int .i64 t4, .int .i64 t5]
          | 1 => v = .bool false
          | 2 => v = .bool true
          | 3 => v = .bool true
          | 4 => v = undef
          | 5 => v = undef
          | 6 => v = undef
          | 7 => v = undef
          | 8 => v = undef
          | 9 => v = undef
          | 10 => v = .bool true
          | 11 => v = .bool true
          | 12 => v = undef
          | 13 => v = undef
          | 14 => v = undef
          | 15 => v = undef
          | 16 => v = undef
          | 17 => v = .bool true
          | _ => v = .bool true
          ) (by kernel_rfl) (fun _ _ _ h k => Ext.trans h k) (fun a => Ext.refl a) (Ext.drew _) ?_ ?_ ?_
      · intro iop v wa wb hF hL
        iterate 18 (rcases iop with _ | iop; exact hF)
        exact hF
      · refine Obls.cons ?_ (Obls.cons ?_ (Obls.cons ?_ (Obls.cons ?_ (Obls.cons ?_ (Obls.cons ?_ (Obls.cons ?_ (Obls.cons ?_ (Obls.cons ?_ (Obls.cons ?_ (Obls.cons ?_ (Obls.cons ?_ (Obls.cons ?_ (Obls.cons ?_ (Obls.cons ?_ (Obls.cons ?_ (Obls.cons ?_ (Obls.cons ?_ (Obls.cons ?_ (Obls.nil)))))))))))))))))))
        · intro ev wy hp hl hk hd
          have e3 : ev _ = .pointer (some ⟨q, 0, none⟩) := hk 3 (by decide)
          exact Yield.op (v := .agg #[.int .i64 N, .int .i64 K, .slice ta tn tc, .int .i64 t3, .int .i64 t4, .int .i64 t5]) (w' := wy) (by simp [execOp, go_sem, e3, (EAT.out.ext hl).cells]) ⟨Ext.refl _, rfl⟩
        · intro ev wy hp hl hk hd
          have e15 : ev _ = _ := hk 15 (by decide)
          refine Yield.call rfl hp Try.func32 rfl (by kernel_rfl) ?_
          simp only [List.map_toArray, List.map_cons, List.map_nil, e15]
          exact (HRT.out wy hl).mono fun _ _ ⟨he, hb⟩ => ⟨_, he, hb, by first | rfl | simp⟩
        · intro ev wy hp hl hk hd
          have e16 : ev _ = _ := hk 16 (by decide)
          exact Yield.oq (by simp [execOp, go_sem, e16])
        · intro ev wy hp hl hk hd
          have e17 : ev _ = _ := hk 17 (by decide)
          exact Yield.mv rfl ⟨Ext.refl _, e17⟩
        · intro ev wy hp hl hk hd
          have e3 : ev _ = .pointer (some ⟨q, 0, none⟩) := hk 3 (by decide)
          exact ⟨fun x hx he => (by rw [show x = .bool true from hx] at he; cases he), fun _ _ _ => rfl⟩
        · intro ev wy hp hl hk hd
          have e19 : ev _ = _ := hk 19 (by decide)
          exact ⟨fun x hx he => (by rw [show x = .bool true from hx] at he; cases he), fun _ _ _ => rfl⟩
        · intro ev wy hp hl hk hd
          have e0 : ev _ = .pointer (some ⟨p, 0, none⟩) := hk 0 (by decide)
          exact ⟨fun x hx he => (by rw [show x = .bool true from hx] at he; cases he), fun _ _ _ => rfl⟩
        · intro ev wy hp hl hk hd
          have e21 : ev _ = _ := hk 21 (by decide)
          exact ⟨fun x hx he => (by rw [show x = .bool true from hx] at he; cases he), fun _ _ _ => rfl⟩
        · intro ev wy hp hl hk hd
          have e22 : ev _ = _ := hk 22 (by decide)
          exact ⟨fun x hx he => (by rw [show x = .bool true from hx] at he; cases he), fun _ _ _ => rfl⟩
        · intro ev wy hp hl hk hd
          have e20 : ev _ = _ := hk 20 (by decide)
          have e23 : ev _ = _ := hk 23 (by decide)
          exact ⟨fun x hx he => (by rw [show x = .bool true from hx] at he; cases he), fun _ _ _ => rfl⟩
        · intro ev wy hp hl hk hd
          have e18 : ev _ = _ := hk 18 (by decide)
          have e24 : ev _ = _ := hk 24 (by decide)
          exact Yield.pick (t := true) rfl e18 ⟨Ext.refl _, hp.const _⟩
        · intro ev wy hp hl hk hd
          have e25 : ev _ = _ := hk 25 (by decide)
          exact Yield.mv rfl ⟨Ext.refl _, e25⟩
        · intro ev wy hp hl hk hd
          have e5 : ev _ = .slice na nn nc := hk 5 (by decide)
          exact ⟨fun x hx he => (by rw [show x = .bool true from hx] at he; cases he), fun _ _ _ => rfl⟩
        · intro ev wy hp hl hk hd
          have e0 : ev _ = .pointer (some ⟨p, 0, none⟩) := hk 0 (by decide)
          exact ⟨fun x hx he => (by rw [show x = .bool true from hx] at he; cases he), fun _ _ _ => rfl⟩
        · intro ev wy hp hl hk hd
          have e28 : ev _ = _ := hk 28 (by decide)
          exact ⟨fun x hx he => (by rw [show x = .bool true from hx] at he; cases he), fun _ _ _ => rfl⟩
        · intro ev wy hp hl hk hd
          have e27 : ev _ = _ := hk 27 (by decide)
          have e29 : ev _ = _ := hk 29 (by decide)
          exact ⟨fun x hx he => (by rw [show x = .bool true from hx] at he; cases he), fun _ _ _ => rfl⟩
        · intro ev wy hp hl hk hd
          have e30 : ev _ = _ := hk 30 (by decide)
          exact ⟨fun x hx he => (by rw [show x = .bool true from hx] at he; cases he), fun _ _ _ => rfl⟩
        · intro ev wy hp hl hk hd
          have e26 : ev _ = _ := hk 26 (by decide)
          have e31 : ev _ = _ := hk 31 (by decide)
          exact Yield.pick (t := true) rfl e26 ⟨Ext.refl _, hp.const _⟩
        · intro ev wy hp hl hk hd
          have e32 : ev _ = _ := hk 32 (by decide)
          exact Yield.as rfl ⟨Ext.refl _, e32⟩
      · intro vals wz hz hv
        have g15 : vals 0 = _ := hv 0 (by decide)
        have g16 : vals 1 = _ := hv 1 (by decide)
        have g17 : vals 2 = _ := hv 2 (by decide)
        have g18 : vals 3 = _ := hv 3 (by decide)
        have g19 : vals 4 = _ := hv 4 (by decide)
        have g20 : vals 5 = _ := hv 5 (by decide)
        have g21 : vals 6 = _ := hv 6 (by decide)
        have g22 : vals 7 = _ := hv 7 (by decide)
        have g23 : vals 8 = _ := hv 8 (by decide)
        have g24 : vals 9 = _ := hv 9 (by decide)
        have g25 : vals 10 = _ := hv 10 (by decide)
        have g26 : vals 11 = _ := hv 11 (by decide)
        have g27 : vals 12 = _ := hv 12 (by decide)
        have g28 : vals 13 = _ := hv 13 (by decide)
        have g29 : vals 14 = _ := hv 14 (by decide)
        have g30 : vals 15 = _ := hv 15 (by decide)
        have g31 : vals 16 = _ := hv 16 (by decide)
        have g32 : vals 17 = _ := hv 17 (by decide)
        have g14 : vals 18 = _ := hv 18 (by decide)
        clear hv
        simp only [putAll, Act.put, List.setIfInBounds_toArray, List.set_cons_zero, List.set_cons_succ, g15, g16, g17, g18, g19, g20, g21, g22, g23, g24, g25, g26, g27, g28, g29, g30, g31, g32, g14]
        clear g15 g16 g17 g18 g19 g20 g21 g22 g23 g24 g25 g26 g27 g28 g29 g30 g31 g32 g14
        go_wp2_with fail
        go_ret
        exact ⟨by rw [HX.out.1]; rfl, HFIN.out _ hz HX.out.2⟩
    | true =>
      by_cases hne : N = (m : Int) + 1
      case neg =>
        have HNE := Lib.hid hne
        have HX := Lib.hid (Ord.err_form (cs := cs) (e := ⟨N, K, ct, t3, t4, t5⟩) (fun hh => HNE.out (by have := hh.2.1; rw [HM.out] at this; simpa using this)))
        clear hne
        refine wp_region_facts (by kernel_rfl) Ext (fun iop v w => match iop with
            | 0 => v = .agg #[.int .i64 N, .int .i64 K, .slice ta tn tc, .int .i64 t3, .int .i64 t4, .int .i64 t5]
            | 1 => v = .bool true
            | 2 => v = .bool false
            | 3 => v = .bool false
            | 4 => v = .pointer (some ⟨q, 0, none⟩)
            | 5 => v = .int .i64 N
            | 6 => v = .pointer (some ⟨p, 0, none⟩)
            | 7 => v = .int .i64 (m : Int)
            | 8 => v = .int .i64 ((m : Int) + 1)
            | 9 => v = .bool true
            | 10 => v = .bool true
            | 11 => v = .bool true
            | 12 => v = undef
            | 13 => v = undef
            | 14 => v = undef
            | 15 => v = undef
            | 16 => v = undef
            | 17 => v = .bool true
            | _ => v = .bool true
            ) (by kernel_rfl) (fun _ _ _ h k => Ext.trans h k) (fun a => Ext.refl a) (Ext.drew _) ?_ ?_ ?_
        · intro iop v wa wb hF hL
          iterate 18 (rcases iop with _ | iop; exact hF)
          exact hF
        · refine Obls.cons ?_ (Obls.cons ?_ (Obls.cons ?_ (Obls.cons ?_ (Obls.cons ?_ (Obls.cons ?_ (Obls.cons ?_ (Obls.cons ?_ (Obls.cons ?_ (Obls.cons ?_ (Obls.cons ?_ (Obls.cons ?_ (Obls.cons ?_ (Obls.cons ?_ (Obls.cons ?_ (Obls.cons ?_ (Obls.cons ?_ (Obls.cons ?_ (Obls.cons ?_ (Obls.nil)))))))))))))))))))
          · intro ev wy hp hl hk hd
            have e3 : ev _ = .pointer (some ⟨q, 0, none⟩) := hk 3 (by decide)
            exact Yield.op (v := .agg #[.int .i64 N, .int .i64 K, .slice ta tn tc, .int .i64 t3, .int .i64 t4, .int .i64 t5]) (w' := wy) (by simp [execOp, go_sem, e3, (EAT.out.ext hl).cells]) ⟨Ext.refl _, rfl⟩
          · intro ev wy hp hl hk hd
            have e15 : ev _ = _ := hk 15 (by decide)
            refine Yield.call rfl hp Try.func32 rfl (by kernel_rfl) ?_
            simp only [List.map_toArray, List.map_cons, List.map_nil, e15]
            exact (HRT.out wy hl).mono fun _ _ ⟨he, hb⟩ => ⟨_, he, hb, by first | rfl | simp⟩
          · intro ev wy hp hl hk hd
            have e16 : ev _ = _ := hk 16 (by decide)
            exact Yield.oq (by simp [execOp, go_sem, e16])
          · intro ev wy hp hl hk hd
            have e17 : ev _ = _ := hk 17 (by decide)
            exact Yield.mv rfl ⟨Ext.refl _, e17⟩
          · intro ev wy hp hl hk hd
            have e3 : ev _ = .pointer (some ⟨q, 0, none⟩) := hk 3 (by decide)
            refine ⟨fun _ _ _ => ?_, fun _ hx hne => absurd hx hne⟩
            exact Yield.op (v := .pointer (some ⟨q, 0, none⟩)) (w' := wy) (by simp [execOp, go_sem, e3]) ⟨Ext.refl _, rfl⟩
          · intro ev wy hp hl hk hd
            have e19 : ev _ = _ := hk 19 (by decide)
            refine ⟨fun _ _ _ => ?_, fun _ hx hne => absurd hx hne⟩
            exact Yield.load rfl e19 (ldInt (EAT.out.ext hl).cells.1) ⟨Ext.refl _, rfl⟩
          · intro ev wy hp hl hk hd
            have e0 : ev _ = .pointer (some ⟨p, 0, none⟩) := hk 0 (by decide)
            refine ⟨fun _ _ _ => ?_, fun _ hx hne => absurd hx hne⟩
            exact Yield.mv rfl ⟨Ext.refl _, e0⟩
          · intro ev wy hp hl hk hd
            have e21 : ev _ = _ := hk 21 (by decide)
            refine ⟨fun _ _ _ => ?_, fun _ hx hne => absurd hx hne⟩
            refine Yield.call rfl hp Try.func19 rfl (by kernel_rfl) ?_
            simp only [List.map_toArray, List.map_cons, List.map_nil, e21]
            exact (HEN.out wy hl).mono fun _ _ ⟨he, hb⟩ => ⟨_, he, hb, by first | rfl | simp⟩
          · intro ev wy hp hl hk hd
            have e22 : ev _ = _ := hk 22 (by decide)
            refine ⟨fun _ _ _ => ?_, fun _ hx hne => absurd hx hne⟩
            exact Yield.op (v := .int .i64 ((m : Int) + 1)) (w' := wy) (by simp [execOp, go_sem, e22, hp.const]; exact HWR.out) ⟨Ext.refl _, rfl⟩
          · intro ev wy hp hl hk hd
            have e20 : ev _ = _ := hk 20 (by decide)
            have e23 : ev _ = _ := hk 23 (by decide)
            refine ⟨fun _ _ _ => ?_, fun _ hx hne => absurd hx hne⟩
            exact Yield.op (v := .bool true) (w' := wy) (by simp [execOp, go_sem, e20, e23, HNE.out]) ⟨Ext.refl _, rfl⟩
          · intro ev wy hp hl hk hd
            have e18 : ev _ = _ := hk 18 (by decide)
            have e24 : ev _ = _ := hk 24 (by decide)
            exact Yield.pick (t := false) rfl e18 ⟨Ext.refl _, e24⟩
          · intro ev wy hp hl hk hd
            have e25 : ev _ = _ := hk 25 (by decide)
            exact Yield.mv rfl ⟨Ext.refl _, e25⟩
          · intro ev wy hp hl hk hd
            have e5 : ev _ = .slice na nn nc := hk 5 (by decide)
            exact ⟨fun x hx he => (by rw [show x = .bool true from hx] at he; cases he), fun _ _ _ => rfl⟩
          · intro ev wy hp hl hk hd
            have e0 : ev _ = .pointer (some ⟨p, 0, none⟩) := hk 0 (by decide)
            exact ⟨fun x hx he => (by rw [show x = .bool true from hx] at he; cases he), fun _ _ _ => rfl⟩
          · intro ev wy hp hl hk hd
            have e28 : ev _ = _ := hk 28 (by decide)
            exact ⟨fun x hx he => (by rw [show x = .bool true from hx] at he; cases he), fun _ _ _ => rfl⟩
          · intro ev wy hp hl hk hd
            have e27 : ev _ = _ := hk 27 (by decide)
            have e29 : ev _ = _ := hk 29 (by decide)
            exact ⟨fun x hx he => (by rw [show x = .bool true from hx] at he; cases he), fun _ _ _ => rfl⟩
          · intro ev wy hp hl hk hd
            have e30 : ev _ = _ := hk 30 (by decide)
            exact ⟨fun x hx he => (by rw [show x = .bool true from hx] at he; cases he), fun _ _ _ => rfl⟩
          · intro ev wy hp hl hk hd
            have e26 : ev _ = _ := hk 26 (by decide)
            have e31 : ev _ = _ := hk 31 (by decide)
            exact Yield.pick (t := true) rfl e26 ⟨Ext.refl _, hp.const _⟩
          · intro ev wy hp hl hk hd
            have e32 : ev _ = _ := hk 32 (by decide)
            exact Yield.as rfl ⟨Ext.refl _, e32⟩
        · intro vals wz hz hv
          have g15 : vals 0 = _ := hv 0 (by decide)
          have g16 : vals 1 = _ := hv 1 (by decide)
          have g17 : vals 2 = _ := hv 2 (by decide)
          have g18 : vals 3 = _ := hv 3 (by decide)
          have g19 : vals 4 = _ := hv 4 (by decide)
          have g20 : vals 5 = _ := hv 5 (by decide)
          have g21 : vals 6 = _ := hv 6 (by decide)
          have g22 : vals 7 = _ := hv 7 (by decide)
          have g23 : vals 8 = _ := hv 8 (by decide)
          have g24 : vals 9 = _ := hv 9 (by decide)
          have g25 : vals 10 = _ := hv 10 (by decide)
          have g26 : vals 11 = _ := hv 11 (by decide)
          have g27 : vals 12 = _ := hv 12 (by decide)
          have g28 : vals 13 = _ := hv 13 (by decide)
          have g29 : vals 14 = _ := hv 14 (by decide)
          have g30 : vals 15 = _ := hv 15 (by decide)
          have g31 : vals 16 = _ := hv 16 (by decide)
          have g32 : vals 17 = _ := hv 17 (by decide)
          have g14 : vals 18 = _ := hv 18 (by decide)
          clear hv
          simp only [putAll, Act.put, List.setIfInBounds_toArray, List.set_cons_zero, List.set_cons_succ, g15, g16, g17, g18, g19, g20, g21, g22, g23, g24, g25, g26, g27, g28, g29, g30, g31, g32, g14]
          clear g15 g16 g17 g18 g19 g20 g21 g22 g23 g24 g25 g26 g27 g28 g29 g30 g31 g32 g14
          go_wp2_with fail
          go_ret
          exact ⟨by rw [HX.out.1]; rfl, HFIN.out _ hz HX.out.2⟩
      case pos =>
        have HNE := Lib.hid hne
        clear hne
        obtain ⟨cb, hcb⟩ : ∃ z, Vec.covers NOW (Ord.last cs) = z := ⟨_, rfl⟩
        have HCB := Lib.hid hcb
        have HCV := Lib.hid (fun (wy : World) (hy : Ext w3 wy) (u : Value) (hu : Ints wy u (Ord.last cs)) => (covers_any (.slice na nn nc) u NOW (Ord.last cs) wy (HNOW.out.below hy) hu).mono fun e w' q => (⟨by rw [← hcb]; exact q.1, q.2 ▸ Ext.refl wy⟩ : e = Ending.returned (.bool cb) ∧ Ext wy w'))
        clear hcb
        refine wp_region_facts (by kernel_rfl) Ext (fun iop v w => match iop with
            | 0 => v = .agg #[.int .i64 N, .int .i64 K, .slice ta tn tc, .int .i64 t3, .int .i64 t4, .int .i64 t5]
            | 1 => v = .bool true
            | 2 => v = .bool false
            | 3 => v = .bool false
            | 4 => v = .pointer (some ⟨q, 0, none⟩)
            | 5 => v = .int .i64 N
            | 6 => v = .pointer (some ⟨p, 0, none⟩)
            | 7 => v = .int .i64 (m : Int)
            | 8 => v = .int .i64 ((m : Int) + 1)
            | 9 => v = .bool false
            | 10 => v = .bool false
            | 11 => v = .bool false
            | 12 => v = .slice na nn nc
            | 13 => v = .pointer (some ⟨p, 0, none⟩)
            | 14 => (∃ a n c, v = .slice a n c) ∧ Ints w v (Ord.last cs)
            | 15 => v = .bool cb
            | 16 => v = .bool (!cb)
            | 17 => v = .bool (!cb)
            | _ => v = .bool (!cb)
            ) (by kernel_rfl) (fun _ _ _ h k => Ext.trans h k) (fun a => Ext.refl a) (Ext.drew _) ?_ ?_ ?_
        · intro iop v wa wb hF hL
          iterate 14 (rcases iop with _ | iop; exact hF)
          rcases iop with _ | iop; (first | exact hF | (obtain ⟨h1, h2⟩ := hF; exact ⟨h1, h2.below hL⟩))
          iterate 3 (rcases iop with _ | iop; exact hF)
          exact hF
        · refine Obls.cons ?_ (Obls.cons ?_ (Obls.cons ?_ (Obls.cons ?_ (Obls.cons ?_ (Obls.cons ?_ (Obls.cons ?_ (Obls.cons ?_ (Obls.cons ?_ (Obls.cons ?_ (Obls.cons ?_ (Obls.cons ?_ (Obls.cons ?_ (Obls.cons ?_ (Obls.cons ?_ (Obls.cons ?_ (Obls.cons ?_ (Obls.cons ?_ (Obls.cons ?_ (Obls.nil)))))))))))))))))))
          · intro ev wy hp hl hk hd
            have e3 : ev _ = .pointer (some ⟨q, 0, none⟩) := hk 3 (by decide)
            exact Yield.op (v := .agg #[.int .i64 N, .int .i64 K, .slice ta tn tc, .int .i64 t3, .int .i64 t4, .int .i64 t5]) (w' := wy) (by simp [execOp, go_sem, e3, (EAT.out.ext hl).cells]) ⟨Ext.refl _, rfl⟩
          · intro ev wy hp hl hk hd
            have e15 : ev _ = _ := hk 15 (by decide)
            refine Yield.call rfl hp Try.func32 rfl (by kernel_rfl) ?_
            simp only [List.map_toArray, List.map_cons, List.map_nil, e15]
            exact (HRT.out wy hl).mono fun _ _ ⟨he, hb⟩ => ⟨_, he, hb, by first | rfl | simp⟩
          · intro ev wy hp hl hk hd
            have e16 : ev _ = _ := hk 16 (by decide)
            exact Yield.oq (by simp [execOp, go_sem, e16])
          · intro ev wy hp hl hk hd
            have e17 : ev _ = _ := hk 17 (by decide)
            exact Yield.mv rfl ⟨Ext.refl _, e17⟩
          · intro ev wy hp hl hk hd
            have e3 : ev _ = .pointer (some ⟨q, 0, none⟩) := hk 3 (by decide)
            refine ⟨fun _ _ _ => ?_, fun _ hx hne => absurd hx hne⟩
            exact Yield.op (v := .pointer (some ⟨q, 0, none⟩)) (w' := wy) (by simp [execOp, go_sem, e3]) ⟨Ext.refl _, rfl⟩
          · intro ev wy hp hl hk hd
            have e19 : ev _ = _ := hk 19 (by decide)
            refine ⟨fun _ _ _ => ?_, fun _ hx hne => absurd hx hne⟩
            exact Yield.load rfl e19 (ldInt (EAT.out.ext hl).cells.1) ⟨Ext.refl _, rfl⟩
          · intro ev wy hp hl hk hd
            have e0 : ev _ = .pointer (some ⟨p, 0, none⟩) := hk 0 (by decide)
            refine ⟨fun _ _ _ => ?_, fun _ hx hne => absurd hx hne⟩
            exact Yield.mv rfl ⟨Ext.refl _, e0⟩
          · intro ev wy hp hl hk hd
            have e21 : ev _ = _ := hk 21 (by decide)
            refine ⟨fun _ _ _ => ?_, fun _ hx hne => absurd hx hne⟩
            refine Yield.call rfl hp Try.func19 rfl (by kernel_rfl) ?_
            simp only [List.map_toArray, List.map_cons, List.map_nil, e21]
            exact (HEN.out wy hl).mono fun _ _ ⟨he, hb⟩ => ⟨_, he, hb, by first | rfl | simp⟩
          · intro ev wy hp hl hk hd
            have e22 : ev _ = _ := hk 22 (by decide)
            refine ⟨fun _ _ _ => ?_, fun _ hx hne => absurd hx hne⟩
            exact Yield.op (v := .int .i64 ((m : Int) + 1)) (w' := wy) (by simp [execOp, go_sem, e22, hp.const]; exact HWR.out) ⟨Ext.refl _, rfl⟩
          · intro ev wy hp hl hk hd
            have e20 : ev _ = _ := hk 20 (by decide)
            have e23 : ev _ = _ := hk 23 (by decide)
            refine ⟨fun _ _ _ => ?_, fun _ hx hne => absurd hx hne⟩
            exact Yield.op (v := .bool false) (w' := wy) (by simp [execOp, go_sem, e20, e23, HNE.out]) ⟨Ext.refl _, rfl⟩
          · intro ev wy hp hl hk hd
            have e18 : ev _ = _ := hk 18 (by decide)
            have e24 : ev _ = _ := hk 24 (by decide)
            exact Yield.pick (t := false) rfl e18 ⟨Ext.refl _, e24⟩
          · intro ev wy hp hl hk hd
            have e25 : ev _ = _ := hk 25 (by decide)
            exact Yield.mv rfl ⟨Ext.refl _, e25⟩
          · intro ev wy hp hl hk hd
            have e5 : ev _ = .slice na nn nc := hk 5 (by decide)
            refine ⟨fun _ _ _ => ?_, fun _ hx hne => absurd hx hne⟩
            exact Yield.mv rfl ⟨Ext.refl _, e5⟩
          · intro ev wy hp hl hk hd
            have e0 : ev _ = .pointer (some ⟨p, 0, none⟩) := hk 0 (by decide)
            refine ⟨fun _ _ _ => ?_, fun _ hx hne => absurd hx hne⟩
            exact Yield.mv rfl ⟨Ext.refl _, e0⟩
          · intro ev wy hp hl hk hd
            have e28 : ev _ = _ := hk 28 (by decide)
            refine ⟨fun _ _ _ => ?_, fun _ hx hne => absurd hx hne⟩
            refine Yield.call rfl hp Try.func23 rfl (by kernel_rfl) ?_
            simp only [List.map_toArray, List.map_cons, List.map_nil, e28]
            exact (HLA.out wy hl).mono fun _ _ ⟨u, he, hb, hu⟩ => ⟨u, he, hb, hu⟩
          · intro ev wy hp hl hk hd
            have e27 : ev _ = _ := hk 27 (by decide)
            have f29 : (fun (v : Value) (w : World) => (∃ a n c, v = .slice a n c) ∧ Ints w v (Ord.last cs)) (ev (.tmp 29)) wy := hk 29 (by decide)
            generalize hx29 : ev (.tmp 29) = x29 at *
            refine ⟨fun _ _ _ => ?_, fun _ hx hne => absurd hx hne⟩
            obtain ⟨⟨a9, n9, c9, hv29⟩, hi29⟩ := f29
            refine Yield.call rfl hp Try.func33 rfl (by kernel_rfl) ?_
            simp only [List.map_toArray, List.map_cons, List.map_nil, e27, hx29]
            exact (HCV.out wy hl _ hi29).mono fun _ _ ⟨he, hb⟩ => ⟨_, he, hb, rfl⟩
          · intro ev wy hp hl hk hd
            have e30 : ev _ = _ := hk 30 (by decide)
            refine ⟨fun _ _ _ => ?_, fun _ hx hne => absurd hx hne⟩
            exact Yield.op (v := .bool (!cb)) (w' := wy) (by simp [execOp, go_sem, e30]) ⟨Ext.refl _, rfl⟩
          · intro ev wy hp hl hk hd
            have e26 : ev _ = _ := hk 26 (by decide)
            have e31 : ev _ = _ := hk 31 (by decide)
            exact Yield.pick (t := false) rfl e26 ⟨Ext.refl _, e31⟩
          · intro ev wy hp hl hk hd
            have e32 : ev _ = _ := hk 32 (by decide)
            exact Yield.as rfl ⟨Ext.refl _, e32⟩
        · intro vals wz hz hv
          have g15 : vals 0 = _ := hv 0 (by decide)
          have g16 : vals 1 = _ := hv 1 (by decide)
          have g17 : vals 2 = _ := hv 2 (by decide)
          have g18 : vals 3 = _ := hv 3 (by decide)
          have g19 : vals 4 = _ := hv 4 (by decide)
          have g20 : vals 5 = _ := hv 5 (by decide)
          have g21 : vals 6 = _ := hv 6 (by decide)
          have g22 : vals 7 = _ := hv 7 (by decide)
          have g23 : vals 8 = _ := hv 8 (by decide)
          have g24 : vals 9 = _ := hv 9 (by decide)
          have g25 : vals 10 = _ := hv 10 (by decide)
          have g26 : vals 11 = _ := hv 11 (by decide)
          have g27 : vals 12 = _ := hv 12 (by decide)
          have g28 : vals 13 = _ := hv 13 (by decide)
          have g29 : (fun (v : Value) (w : World) => (∃ a n c, v = .slice a n c) ∧ Ints w v (Ord.last cs)) (vals 14) wz := hv 14 (by decide)
          have g30 : vals 15 = _ := hv 15 (by decide)
          have g31 : vals 16 = _ := hv 16 (by decide)
          have g32 : vals 17 = _ := hv 17 (by decide)
          have g14 : vals 18 = _ := hv 18 (by decide)
          clear hv
          simp only [putAll, Act.put, List.setIfInBounds_toArray, List.set_cons_zero, List.set_cons_succ, g15, g16, g17, g18, g19, g20, g21, g22, g23, g24, g25, g26, g27, g28, g30, g31, g32, g14]
          clear g15 g16 g17 g18 g19 g20 g21 g22 g23 g24 g25 g26 g27 g28 g30 g31 g32 g14
          generalize vals 14 = v29 at *
          cases cb with
          | false =>
            have HX := Lib.hid (Ord.err_form (cs := cs) (e := ⟨N, K, ct, t3, t4, t5⟩) (fun hh => by have h1 := hh.2.2; rw [HNE2.out, HCB.out] at h1; cases h1))
            go_wp2_with fail
            go_ret
            exact ⟨by rw [HX.out.1]; rfl, HFIN.out _ hz HX.out.2⟩
          | true =>
            have HYES := Lib.hid (show Ent.right ⟨N, K, ct, t3, t4, t5⟩ = true ∧ (⟨N, K, ct, t3, t4, t5⟩ : Ent.E).number = (cs.length : Int) ∧ Vec.covers (Ord.now cs ⟨N, K, ct, t3, t4, t5⟩) (Ord.last cs) = true from ⟨HRB.out, by rw [HM.out]; exact HNE.out, by rw [HNE2.out]; exact HCB.out⟩)
            have HZ := Lib.hid hz
            clear hz
            go_wp2_with fail
            refine (total_any _ _ wz (HNOW.out.below HZ.out)).mono ?_
            rintro x w5 ⟨rfl, rfl⟩
            obtain ⟨T, hT⟩ : ∃ z, Vec.total NOW = z := ⟨_, rfl⟩
            rw [hT]
            have HT := Lib.hid hT
            clear hT
            by_cases hbig : 1000000 < T
            · have HX := Lib.hid (Ord.err_many HYES.out (by rw [HNE2.out, HT.out]; exact hbig))
              go_wp2_with fail
              go_ret
              exact ⟨by rw [HX.out.1]; rfl, HFIN.out _ HZ.out HX.out.2⟩
            · have HX := Lib.hid (Ord.err_none HYES.out (by rw [HNE2.out, HT.out]; exact hbig))
              rw [HNE2.out] at HX
              have HIW := Lib.hid (HI3.out.ext HZ.out)
              obtain ⟨v0, hp1, xs, hr1, hr2, hr3⟩ := HIW.out.at'
              obtain ⟨ra, rn, rc, rfl⟩ := ownSlice hr1
              have hpl := HIW.out.lt
              have HP1 := Lib.hid hp1
              have HR1 := Lib.hid (And.intro hr1 (And.intro hr2 hr3))
              obtain ⟨W, hW⟩ : ∃ z, wz.alloc (.cells #[.slice na nn nc] 46) = z := ⟨_, rfl⟩
              have hEW : Ext wz W := by rw [← hW]; exact Ext.alloc _ _
              have hru : Sl W (.slice (some ⟨wz.heap.size, 0, none⟩) 1 1) [.slice na nn nc] := by rw [← hW]; exact slice_row15 _ _ _ _
              have hrw := rowExt hr1 hEW
              have c0 := cell_of_heap hp1 0
              simp only [List.getElem?_toArray, List.getElem?_cons_zero] at c0
              have hone : ∀ y ∈ [Value.slice na nn nc], y.oneCell' = true := oneSlice ⟨_, _, _, rfl⟩
              have hsz : cs.length + [Value.slice na nn nc].length ≤ maxLen := by simp [maxLen]; have := HMS.out; omega
              have hby : (cs.length + [Value.slice na nn nc].length) * 24 ≤ 140737488355328 := by simp; have := HMS.out; omega
              have hBW : B ≤ W.heap.size := Nat.le_trans hB (Nat.le_trans HE3.out.size (Nat.le_trans HZ.out.size hEW.size))
              have hpW := heap_ext hp1 hEW
              have HW := Lib.hid (And.intro hW (And.intro hEW hpW))
              have hne := rowBeside hrw hpW (by decide)
              have hpg : ∀ w6, W.grownBy w6 (Value.slice ra rn rc).ownBlock → w6.heap[p]? = some (.cells #[.slice ra rn rc] 71 (0, 0)) := fun w6 hg => (hg.block p (Array.getElem?_eq_some_iff.1 hpW).1 hne).trans hpW
              have hfz : ∀ w6, W.grownBy w6 (Value.slice ra rn rc).ownBlock → w6.frozen? ⟨p, 0, none⟩ = false := fun w6 hg => frozen_of_heap (hpg w6 hg) 0
              have hcz : ∀ w6, W.grownBy w6 (Value.slice ra rn rc).ownBlock → w6.cell? ⟨p, 0, none⟩ = some (.slice ra rn rc) := fun w6 hg => by rw [cell_of_heap (hpg w6 hg) 0]; rfl
              have HG := Lib.hid (And.intro hpg (And.intro hfz hcz))
              clear hr1 hr2 hr3 hp1 hW hEW hpW hpg hfz hcz hne
              go_wp2_with (first
                | (refine opAny15 (.slice (some ⟨wz.heap.size, 0, none⟩) 1 1) (o := .buildSlice 69 _ _) rfl (by kernel_rfl) (w' := W) (by rw [← HW.out.1]; kernel_rfl) ?_)
                | (at_builtin; refine wpList_app rfl (.tmp 41) (.tmp 43) tRow rfl rfl rfl hrw hru hone hsz hby hBW ?_; intro v6 w6 hown6 hg6; have hf6 := HG.out.2.1 w6 hg6; have hc6 := HG.out.2.2 w6 hg6; obtain ⟨xa, xn, xc, rfl⟩ := ownSlice hown6))
              go_ret
              have hp6 := HG.out.1 w6 hg6
              have hBw : Below B w w6 := ((HE3.out.trans (HZ.out.trans HW.out.2.1)).mono hB).grown hg6 hBW (fun k hk => (hrw.lt k hk).1)
              refine ⟨by rw [HX.out.1]; rfl, ⟨⟨_, heap_setCell hp6 0 _, ?_⟩, HIW.out.ge, sh, by rw [HX.out.2]; exact HO.out.snoc HCB.out (by have h1 := HT.out; unfold Vec.total at h1; rw [if_pos (Vec.covers_ok HCB.out).1] at h1; omega)⟩, hBw.setCell HIW.out.ge _⟩
              rw [HX.out.2]
              have hrr : OwnRR w6 B (.slice xa xn xc) (cs ++ [NOW]) := OwnRR.snoc (ls := cs) (v := .slice ra rn rc) (w := W) (xs := xs) (rowExt HR1.out.1 HW.out.2.1) HR1.out.2.1 (fun i h h' => (HR1.out.2.2 i h h').ext HW.out.2.1) (HI3.out.ge |> fun _ => (OwnI.ext H.out.1 (HZ.out.trans HW.out.2.1))) hg6 (by simpa using hown6)
              exact hrr.but hp6 (by decide) (by decide) (butSet w6 p 0 _)
end Go.Proofs.Ytnldbdgchkknpaa
