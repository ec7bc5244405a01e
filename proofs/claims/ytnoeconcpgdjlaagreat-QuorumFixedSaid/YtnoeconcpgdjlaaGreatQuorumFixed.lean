import Derived.Test.YtnoeconcpgdjlaaGreatBsCrcLaw
import Derived.Test.YtnoeconcpgdjlaaGreatBsEnt
import Derived.Test.YtnoeconcpgdjlaaGreatBsEnt2
import Derived.Test.YtnoeconcpgdjlaaGreatBsQua
import Derived.Test.YtnoeconcpgdjlaaGreatBsQub
import Derived.Test.YtnoeconcpgdjlaaGreatBsQub2
namespace Go.Proofs.YtnoeconcpgdjlaaGreat
set_option linter.unusedSimpArgs false
set_option linter.unusedVariables false
open Go.ChangeShapes Go.WideShapes Go.ChangeAt Go.RowKit
namespace Quo
open Ent (E)
open Rep (From)
def Tail2 (x : Fx) (t : List E) : Prop := ∃ i j, i < 3 /\ j < 3 /\ i ≠ j /\ (x.r i).w.sealed = true /\ (x.r j).w.sealed = true /\ (x.r i).w.l.length <= t.length /\ (x.r j).w.l.length <= t.length /\ t <+: x.p.l
def heardOf (x : Fx) (skip : Nat) : Nat -> List (Int × List E)
 | 0 => []
 | j + 1 => heardOf x skip j ++ (if j = skip then [] else [((j : Int), (x.r j).w.l)])
theorem longest_in : ∀ (ps : List (Int × List E)) (o : List E), ps.foldl (fun o p => if o.length < p.2.length then p.2 else o) o = o \/ ∃ p ∈ ps, ps.foldl (fun o p => if o.length < p.2.length then p.2 else o) o = p.2 := by
 intro ps
 induction ps with
 | nil => exact fun o => .inl rfl
 | cons p ps ih =>
  intro o
  rw [List.foldl_cons]
  rcases ih (if o.length < p.2.length then p.2 else o) with h | ⟨p', hp, h⟩
  . rw [h]
    split
    . exact .inr ⟨p, List.mem_cons_self, rfl⟩
    . exact .inl rfl
  . exact .inr ⟨p', List.mem_cons_of_mem _ hp, h⟩
theorem heardOf_mem {x : Fx} {skip : Nat} : ∀ {j : Nat} {p : Int × List E}, p ∈ heardOf x skip j -> ∃ i, i < j /\ i ≠ skip /\ p = ((i : Int), (x.r i).w.l) := by
 intro j
 induction j with
 | zero => intro p h; cases h
 | succ j ih =>
  intro p h
  unfold heardOf at h
  rcases List.mem_append.1 h with h | h
  . obtain ⟨i, h1, h2⟩ := ih h
    exact ⟨i, by omega, h2⟩
  . split at h
    . cases h
    . next hne => exact ⟨j, by omega, hne, List.mem_singleton.1 h⟩
theorem heardOf_has {x : Fx} {skip i : Nat} (hne : i ≠ skip) : ∀ {j : Nat}, i < j -> ((i : Int), (x.r i).w.l) ∈ heardOf x skip j := by
 intro j
 induction j with
 | zero => intro h; omega
 | succ j ih =>
  intro h
  unfold heardOf
  by_cases e : i = j
  . subst e
    rw [if_neg hne]
    exact List.mem_append_right _ (List.mem_singleton.2 rfl)
  . exact List.mem_append_left _ (ih (by omega))
theorem tail2 {x : Fx} (h : Inv x) {skip : Nat} (hs : skip < 3) {se : Se} (hok : se.Ok) (hps : se.ps = heardOf x skip 3) (hseal : ∀ i, i < 3 -> i ≠ skip -> (x.r i).w.sealed = true) : Tail2 x se.long := by
 have hlen : ∀ i, i < 3 -> i ≠ skip -> (x.r i).w.l.length <= se.long.length := fun i hi hne => by
  have h1 := hok.pre ((i : Int), (x.r i).w.l) (by rw [hps]; exact heardOf_has hne hi)
  exact h1.length_le
 have hpre : se.long <+: x.p.l := by
  rcases longest_in se.ps [] with h1 | ⟨p, hp, h1⟩
  . unfold Se.long zcq
    rw [h1]
    exact List.nil_prefix
  . unfold Se.long zcq
    rw [h1]
    rw [hps] at hp
    obtain ⟨i, hi, _, rfl⟩ := heardOf_mem hp
    have hf := h.pre i hi
    unfold From at hf
    show (x.r i).w.l <+: _
    rw [hf]
    exact List.take_prefix _ _
 have hsk : skip = 0 \/ skip = 1 \/ skip = 2 := by omega
 rcases hsk with e | e | e
 . exact ⟨1, 2, by omega, by omega, by omega, hseal 1 (by omega) (by omega), hseal 2 (by omega) (by omega), hlen 1 (by omega) (by omega), hlen 2 (by omega) (by omega), hpre⟩
 . exact ⟨0, 2, by omega, by omega, by omega, hseal 0 (by omega) (by omega), hseal 2 (by omega) (by omega), hlen 0 (by omega) (by omega), hlen 2 (by omega) (by omega), hpre⟩
 . exact ⟨0, 1, by omega, by omega, by omega, hseal 0 (by omega) (by omega), hseal 1 (by omega) (by omega), hlen 0 (by omega) (by omega), hlen 1 (by omega) (by omega), hpre⟩
theorem Tail2.step {x : Fx} (h : Inv x) (s : Step) {t : List E} (ht : Tail2 x t) : Tail2 (x.step s) t := by
 obtain ⟨i, j, hi, hj, hij, h1, h2, h3, h4, h5⟩ := ht
 have e1 := zfs h s hi h1
 have e2 := zfs h s hj h2
 exact ⟨i, j, hi, hj, hij, by rw [e1]; exact h1, by rw [e2]; exact h2, by rw [e1]; exact h3, by rw [e2]; exact h4, h5.trans (step_inv h s).2⟩
theorem Tail2.has {x : Fx} (h : Inv x) {t : List E} (ht : Tail2 x t) : x.p.committed <= (t.length : Int) /\ t.take x.p.committed.toNat = x.p.l.take x.p.committed.toNat := by
 obtain ⟨i, j, hi, hj, hij, _, _, h3, h4, h5⟩ := ht
 exact zrz h hi hj hij h3 h4 h5
def fresh : Fx := ⟨new c3, fun i => Rep.new (i : Int) 1⟩
theorem fresh_inv : Inv fresh := ⟨new_ok c3_right, rfl, fun i _ => Rep.new_calm _ _, fun i _ => ⟨rfl, rfl⟩, fun i _ => rfl, fun i _ => Int.le_refl _⟩
end Quo
theorem tEN12t : ElemN Tryz.prog 75 61 (.slice none 0 0) 1 24 := ⟨Tryz.underlying75, by kernel_rfl, rfl, by omega⟩
theorem tRP12 : ElemN Tryz.prog 66 69 (.pointer none) 1 8 := ⟨Tryz.underlying66, by kernel_rfl, rfl, by omega⟩
theorem box_world12 (w : World) : (Instr.box 68 (.agg #[.pointer none, .slice none 0 0, .slice none 0 0])).run Tryz.prog w = .ok (.pointer (some ⟨w.heap.size, 0, none⟩)) (w.alloc (.cells #[.pointer none, .slice none 0 0, .slice none 0 0] 68)) := by kernel_rfl
theorem build_world12 (w : World) : (Instr.build 68 #[]).run Tryz.prog w = .ok (.agg #[.pointer none, .slice none 0 0, .slice none 0 0]) w := by kernel_rfl
theorem may12 (i : Nat) (hi : i < 3) : May11 (i : Int) Quo.c3 := by
 have : i = 0 \/ i = 1 \/ i = 2 := by omega
 rcases this with e | e | e <;> subst e <;> exact ⟨by decide, by decide⟩
theorem Fx12.repAt {W w : World} {q xp lb lc : Nat} {F : Nat -> Prop} {X : Nat -> Nat} {mv : Value} {ps : List (Value × Ent.E)} {x : Quo.Fx} {SP KP : Nat -> Prop} {SR : Nat -> Nat -> Prop} (h : Fx12 W q F 3 xp X (.slice (some ⟨lb, 0, none⟩) 3 lc) mv ps x SP KP SR w) {j : Nat} (hj : j < 3) : w.cell? ⟨lb, j, none⟩ = some (.pointer (some ⟨X j, 0, none⟩)) := by
 obtain ⟨b, c, e, _, _, _, hc⟩ := rowAt12 h.lrow (by omega)
 injection e with e1 _ _
 injection e1 with e1
 injection e1 with e1 _ _
 subst e1
 have h1 := hc j (by omega)
 rw [List.getElem?_map, List.getElem?_range hj] at h1
 exact h1
set_option maxRecDepth 100000 in
set_option maxHeartbeats 40000000 in
theorem quorumFixed_walk (a : Option Addr) (n cp : Nat) (l : List Quo.Step) (a2 : Option Addr) (n2 cp2 : Nat) (l2 : List Quo.Step) (W0 : World) (h0 : Steps12 W0 (.slice a n cp) l) (hf0 : ∀ o ∈ l, o.Wide) (h2 : Steps12 W0 (.slice a2 n2 cp2) l2) (hf2 : ∀ o ∈ l2, o.Wide) :
 Calls Tryz.prog 4 #[.slice a n cp, .slice a2 n2 cp2] W0 fun e W' => e = .returned (.bool true) /\ Below W0.heap.size W0 W' := by
 obtain ⟨hn, hnc, hc9⟩ := h0.open
 obtain ⟨hn2, hnc2, hc92⟩ := h2.open
 have HN := Hi (And.intro hn.symm hn2.symm)
 have HS0 := Hi (And.intro h0 h2)
 have HWD := Hi (And.intro hf0 hf2)
 have hal := zpf W0
 have hE0 : Ext W0 (al11 W0) := ((Ext.alloc _ _).trans (Ext.alloc _ _)).trans (Ext.alloc _ _)
 have hz0 : (al11 W0).heap.size = W0.heap.size + 1 + 1 + 1 := by unfold al11; simp [World.size_alloc]
 clear h0 h2 hf0 hf2 hn hn2
 go_enter Tryz.func4, Tryz.ntmps4
 go_upto_region 2 with fail
 obtain ⟨wc, hwc⟩ : ∃ z, al11 W0 = z := ⟨_, rfl⟩
 rw [hwc] at hal hE0 hz0
 unfold al11 at hwc
 rw [hwc]
 obtain ⟨g, hg⟩ : ∃ z, W0.heap.size = z := ⟨_, rfl⟩
 rw [hg] at hal hz0 ⊢
 have hE1 : Ext wc (wc.alloc (.cells #[.int .i64 1, .slice (some ⟨g, 0, none⟩) 3 3, .slice (some ⟨g + 1 + 1, 0, none⟩) 1 1] 33)) := Ext.alloc _ _
 have hc1 := heap_alloc_new wc (.cells #[.int .i64 1, .slice (some ⟨g, 0, none⟩) 3 3, .slice (some ⟨g + 1 + 1, 0, none⟩) 1 1] 33)
 rw [hz0] at hc1
 obtain ⟨W, hW⟩ : ∃ z, wc.alloc (.cells #[.int .i64 1, .slice (some ⟨g, 0, none⟩) 3 3, .slice (some ⟨g + 1 + 1, 0, none⟩) 1 1] 33) = z := ⟨_, rfl⟩
 rw [hW] at hE1 hc1 ⊢
 obtain ⟨q5, hq5⟩ : ∃ z, g + 1 + 1 + 1 = z := ⟨_, rfl⟩
 rw [hq5] at hc1
 simp only [hq5]
 have HCF := Hi (show ∀ w', Ext W w' -> IsConf w' (.agg #[.int .i64 1, .slice (some ⟨g, 0, none⟩) 3 3, .slice (some ⟨g + 1 + 1, 0, none⟩) 1 1]) Quo.c3 from fun w' h => by
  obtain ⟨s, d, e, h1, h2⟩ := hal
  exact ⟨s, d, e, h1.below (hE1.trans h), h2.below (hE1.trans h)⟩)
 have HC5 := Hi (show ∀ w', Ext W w' -> w'.cell? ⟨q5, 0, none⟩ = some (.int .i64 1) /\ w'.cell? ⟨q5, 1, none⟩ = some (.slice (some ⟨g, 0, none⟩) 3 3) /\ w'.cell? ⟨q5, 2, none⟩ = some (.slice (some ⟨g + 1 + 1, 0, none⟩) 1 1) from fun w' h => ⟨zaa (zad hc1 h) 0, zaa (zad hc1 h) 1, zaa (zad hc1 h) 2⟩)
 have HE0 := Hi (hE0.trans hE1)
 clear hal hE0 hz0 hwc hg hE1 hc1 hW hq5
 have hbw := build_world12
 have hbx := box_world12
 obtain ⟨q, hq⟩ : ∃ z, W.heap.size = z := ⟨_, rfl⟩
 have hEw : Ext W (W.alloc (.cells #[.pointer none, .slice none 0 0, .slice none 0 0] 68)) := Ext.alloc _ _
 have hqw := heap_alloc_new W (.cells #[.pointer none, .slice none 0 0, .slice none 0 0] 68)
 obtain ⟨w1, hw1⟩ : ∃ z, W.alloc (.cells #[.pointer none, .slice none 0 0, .slice none 0 0] 68) = z := ⟨_, rfl⟩
 rw [hw1] at hEw hqw
 rw [hq] at hqw
 have HW1 := Hi (And.intro hw1 hq)
 have HQ1 := Hi (And.intro hEw hqw)
 obtain ⟨y0, y1, y2⟩ := HC5.out w1 hEw
 clear hEw hqw hw1 hq
 go_upto_region 3 with fail
 rw [HW1.out.1, HW1.out.2]
 clear hbw hbx
 go_wp2_with fail
 refine (zji w1 _ Quo.c3 (HCF.out w1 HQ1.out.1)).mono ?_
 rintro e w2 ⟨h, hE2⟩
 rcases h with ⟨xp, _, rfl, SP0, KP0, hpr⟩ | ⟨h, _⟩
 case inr => exact absurd Quo.c3_right (by rw [h]; decide)
 have HE2 := Hi (HQ1.out.1.trans hE2)
 have hq2 := zad HQ1.out.2 hE2
 have HQ2 := Hi hq2
 have HSP := Hi (show (∀ k, SP0 k -> w1.heap.size <= k) /\ ∀ k, KP0 k -> w1.heap.size <= k from ⟨fun k hk => (hpr.lt hk).1, fun k hk => (hpr.ltK hk).1⟩)
 have HPR := Hi (hpr.lower12 HQ1.out.1.size)
 have z0 : w2.cell? ⟨q, 0, none⟩ = some (.pointer none) := zaa hq2 0
 have z3 : w2.frozen? ⟨q, 0, none⟩ = false := zac hq2 0
 clear hpr hE2 hq2 y0 y1 y2
 obtain ⟨pq, hpq⟩ : ∃ z, wrap64 ((n : Int) + (n2 : Int)) = z := ⟨_, rfl⟩
 by_cases h200 : 200 < pq
 case pos =>
  go_wp2_with fail
  refine (zfp w2).mono ?_
  rintro e w3 ⟨rfl, hE3⟩
  have HE3 := Hi (HE0.out.trans (HE2.out.trans hE3))
  clear hE3
  go_wp2_with fail
  go_ret
  exact ⟨rfl, HE3.out⟩
 case neg =>
  go_upto_region 7 with fail
  clear hpq h200 z0 z3
  have hb3 : But q w2 (w2.setCell ⟨q, 0, none⟩ (.pointer (some ⟨xp, 0, none⟩))) := za2 _ _ _ _
  have hq3 := heap_setCell HQ2.out 0 (.pointer (some ⟨xp, 0, none⟩))
  obtain ⟨w3, hw3⟩ : ∃ z, w2.setCell ⟨q, 0, none⟩ (.pointer (some ⟨xp, 0, none⟩)) = z := ⟨_, rfl⟩
  rw [hw3] at hb3 hq3 ⊢
  have hqW : W.heap.size = q := HW1.out.2
  have hq1z : q < w1.heap.size := (Array.getElem?_eq_some_iff.1 HQ1.out.2).1
  have hSq : ¬ SP0 q /\ ¬ KP0 q := ⟨fun e => by have := HSP.out.1 q e; omega, fun e => by have := HSP.out.2 q e; omega⟩
  have HF0 := Hi (show Fx12 W q (fun k => k = q) 0 xp (fun _ => 0) (.slice none 0 0) (.slice none 0 0) [] Quo.fresh SP0 KP0 (fun _ _ => False) w3 from
   ⟨⟨HPR.out.keep fun k hk hs => hb3.block k hk (fun e => by subst e; exact hs.elim hSq.1 hSq.2), Ext.newQ11 HE2.out (by omega) hb3⟩, (fun i hi => by omega), (fun i j k hi => by omega), (fun i k hi => by omega), hq3, World.ownsRow_nil _ _ _ _, World.ownsRow_nil _ _ _ _, (fun c hc => by cases hc), (fun k hk => by subst hk; exact ⟨⟨by omega, by have := (Array.getElem?_eq_some_iff.1 hq3).1; omega⟩, hSq.1, hSq.2, (fun i hi => by omega)⟩), rfl, (fun k e => by cases e), (fun k e => by cases e), (fun c hc => by cases hc)⟩)
  clear hb3 hq3 hw3 hqW hq1z hSq
  go_wp2_with fail
  go_loopw [9, 10, 11, 66] (fun _ _ _ i wr => ∃ (k : Nat) (F : Nat -> Prop) (X : Nat -> Nat) (lv : Value) (SR : Nat -> Nat -> Prop), k <= 3 /\ i = .int .i64 k /\ Hid (Fx12 W q F k xp X lv (.slice none 0 0) [] Quo.fresh SP0 KP0 SR wr)) (fun _ _ _ i _ => 3 - (intOf i).toNat)
  case atStart => exact ⟨0, _, _, _, _, by omega, rfl, HF0⟩
  case round =>
   obtain ⟨k, F, X, lv, SR, hk, rfl, hI⟩ := hrel
   by_cases hlt : k < 3
   . obtain ⟨la, ln, lc, rfl⟩ := zao hI.out.lrow
     obtain ⟨y0, y1, y2⟩ := HC5.out wr hI.out.ext
     have hk3 : (k : Int) < 3 := by omega
     go_wp2_with fail
     refine (znn wr (k : Int) _ Quo.c3 (HCF.out wr hI.out.ext)).mono ?_
     rintro e w4 ⟨h1, hE4⟩
     rcases h1 with ⟨xr, _, rfl, hR⟩ | ⟨hn, _⟩
     case inr => exact absurd (may12 k hlt) hn
     have HR := Hi hR
     have HE4 := Hi hE4
     have hF4 := hI.out.extend hE4
     have HF4 := Hi hF4
     have x1 : w4.cell? ⟨q, 1, none⟩ = some (.slice la ln lc) := zaa hF4.at' 1
     have hEb : Ext w4 (w4.alloc (.cells #[.pointer (some ⟨xr, 0, none⟩)] 69)) := Ext.alloc _ _
     have HEB := Hi hEb
     have hsl := zcb w4 [.pointer (some ⟨xr, 0, none⟩)] 69 (by simp [maxLen])
     simp only [List.length_cons, List.length_nil] at hsl
     have HSL := Hi (SlN.ofOwn hsl)
     have HF5 := Hi (hF4.extend hEb)
     have te := tRP12
     have HK1 := Hi (show k + 1 <= maxLen by unfold maxLen; omega)
     have HK2 := Hi (show (k + 1) * 8 <= 140737488355328 by omega)
     clear y0 y1 y2 hR hE4 hF4 hEb hsl
     go_upto_region 13 with fail
     go_wp2_with (at_builtin; refine zd2 rfl (.tmp 85) (.tmp 87) te rfl rfl rfl HF5.out.lrow HSL.out (by decide) (by simp [Value.oneCell']) HK1.out HK2.out HF5.out.ext.size ?_; intro v9 w9 hown9 hg9 hat9; obtain ⟨a9, n9, c9, rfl⟩ := zao hown9; have hx9 := (hg9.block q (HF5.out.fre q HF5.out.fq).1.2 (zaj HF5.out.lrow HF5.out.at' (by decide))).trans HF5.out.at'; have k3 : w9.cell? ⟨q, 1, none⟩ = some (.slice la ln lc) := zaa hx9 1; have z3 : w9.frozen? ⟨q, 1, none⟩ = false := zac hx9 1; have H9 := Hi (And.intro hown9 (And.intro hg9 (And.intro hat9 hx9))); clear hown9 hg9 hat9 hx9)
     have hq10 := heap_setCell H9.out.2.2.2 1 (.slice a9 n9 c9)
     have hF10 := Hi (hI.out.addR HE4.out HR.out HEB.out H9.out.2.1 H9.out.1 H9.out.2.2.1 (za2 _ _ _ _) hq10)
     clear hq10
     go_roundw
     case rel => exact ⟨k + 1, _, _, _, _, by omega, by go_num, hF10⟩
     case measure => simp [intOf]; omega
   . obtain rfl : k = 3 := by omega
     obtain ⟨wt, hwt⟩ : ∃ z, z = wr := ⟨_, rfl⟩
     subst hwt
     rw [show ((3 : Nat) : Int) = 3 from rfl]
     obtain ⟨lb, lc, rfl, hlc1, hlc2, _, _⟩ := rowAt12 hI.out.lrow (by omega)
     have HI0 := hI
     have HSTP := Hi (show ∀ w', Ext W w' -> Steps12 w' (.slice a n cp) l from fun w' h => HS0.out.1.below (HE0.out.trans h))
     have HSTP2 := Hi (show ∀ w', Ext W w' -> Steps12 w' (.slice a2 n2 cp2) l2 from fun w' h => HS0.out.2.below (HE0.out.trans h))
     clear hI
     go_wp2_with fail
     go_loopw [13, 94] (fun _ i wr => ∃ (k : Nat) (F : Nat -> Prop) (mv : Value) (ps : List (Value × Ent.E)) (SP KP : Nat -> Prop) (SR : Nat -> Nat -> Prop) (x : Quo.Fx), k <= n /\ i = .int .i64 k /\ Hid (Fx12 W q F 3 xp X (.slice (some ⟨lb, 0, none⟩) 3 lc) mv ps x SP KP SR wr /\ ps.map (·.2) = x.p.l /\ Quo.Inv x)) (fun _ i _ => n - (intOf i).toNat)
     case atStart => exact ⟨0, _, _, _, _, _, _, _, by omega, rfl, Hi ⟨HI0.out, rfl, Quo.fresh_inv⟩⟩
     case round =>
      obtain ⟨k, F, mv, ps, SP, KP, SR, x, hk, rfl, hI⟩ := hrel
      by_cases hlt : k < n
      . have hkl : k < l.length := by rw [HN.out.1]; exact hlt
        obtain ⟨b, off, rfl, c0, c1, c2, c3⟩ := (HSTP.out wr hI.out.1.ext).at k hkl
        have hwd := HWD.out.1 l[k] (List.getElem_mem hkl)
        obtain ⟨⟨kd, who, sn, lost⟩, hst⟩ : ∃ z, l[k] = z := ⟨_, rfl⟩
        rw [hst] at c0 c1 c2 c3 hwd
        simp only at c0 c1 c2 c3
        have HWDK := Hi hwd
        have hE4 : Ext wr (wr.alloc (.cells #[.int .i64 kd, .int .i64 who, .int .i64 sn, .bool lost] 73)) := Ext.alloc _ _
        have hn4 := heap_alloc_new wr (.cells #[.int .i64 kd, .int .i64 who, .int .i64 sn, .bool lost] 73)
        obtain ⟨q9, hq9⟩ : ∃ z, wr.heap.size = z := ⟨_, rfl⟩
        obtain ⟨w4, hw4⟩ : ∃ z, wr.alloc (.cells #[.int .i64 kd, .int .i64 who, .int .i64 sn, .bool lost] 73) = z := ⟨_, rfl⟩
        rw [hw4] at hE4 hn4
        rw [hq9] at hn4
        have HW4 := Hi (And.intro hw4 hq9)
        have HE4 := Hi hE4
        have HF4 := Hi (hI.out.1.extend hE4)
        have y0 : w4.cell? ⟨q9, 0, none⟩ = some (.int .i64 kd) := zaa hn4 0
        have y1 : w4.cell? ⟨q9, 1, none⟩ = some (.int .i64 who) := zaa hn4 1
        have y2 : w4.cell? ⟨q9, 2, none⟩ = some (.int .i64 sn) := zaa hn4 2
        have y3 : w4.cell? ⟨q9, 3, none⟩ = some (.bool lost) := zaa hn4 3
        clear hst hwd hE4 hn4 hq9 hw4 hkl
        go_upto_region 18 with fail
        rw [HW4.out.1, HW4.out.2]
        clear c0 c1 c2 c3
        go_wp2_with fail
        refine (zg6 HF4.out hI.out.2.2 hI.out.2.1 ⟨kd, who, sn, lost⟩ HWDK.out.1 HWDK.out.2.1 HWDK.out.2.2).mono ?_
        unfold zea
        rintro e w5 ⟨rfl, F5, mv5, ps5, SP5, KP5, SR5, hF5, hL5, hh5⟩
        have HN5 := Hi (show Fx12 W q F5 3 xp X (.slice (some ⟨lb, 0, none⟩) 3 lc) mv5 ps5 (x.step ⟨kd, who, sn, lost⟩) SP5 KP5 SR5 w5 /\ ps5.map (·.2) = (x.step ⟨kd, who, sn, lost⟩).p.l /\ Quo.Inv (x.step ⟨kd, who, sn, lost⟩) from ⟨hF5, hL5, (Quo.step_inv hI.out.2.2 _).1⟩)
        clear hF5 hL5 hh5 y0 y1 y2 y3
        go_wp2_with fail
        go_roundw
        case rel => exact ⟨k + 1, _, _, _, _, _, _, _, by omega, by go_num, HN5⟩
        case measure => simp [intOf]; omega
      . obtain rfl : k = n := by omega
        obtain ⟨wt, hwt⟩ : ∃ z, z = wr := ⟨_, rfl⟩
        subst hwt
        have HI1 := hI
        have HXX := Hi (And.intro hI.out.2.1 hI.out.2.2)
        clear hI HI0
        go_wp2_with fail
        go_loopw [14, 15, 16, 17, 18, 19, 20, 21, 22, 102] (fun tv _ _ _ _ _ _ _ _ i wr => ∃ (k : Nat) (F : Nat -> Prop) (ts : List (Value × List Ent.E)), k <= 3 /\ i = .int .i64 k /\ (∃ a n c, tv = .slice a n c) /\ Hid (Fx12 W q F 3 xp X (.slice (some ⟨lb, 0, none⟩) 3 lc) mv ps x SP KP SR wr /\ Tails12 W (Held12 F q (.slice (some ⟨lb, 0, none⟩) 3 lc) mv) tv ts wr /\ (∀ t ∈ ts, Quo.Tail2 x t.2) /\ ts.length <= k)) (fun _ _ _ _ _ _ _ _ _ i _ => 3 - (intOf i).toNat)
        case atStart => exact ⟨0, _, [], by omega, rfl, ⟨_, _, _, rfl⟩, Hi ⟨HI1.out.1, Tails12.nil _ _ _, (fun t ht => by cases ht), Nat.le_refl _⟩⟩
        case round =>
         obtain ⟨k, F, ts, hk, rfl, ⟨ta, tn, tc, rfl⟩, hI⟩ := hrel
         obtain ⟨ws, hws⟩ : ∃ z, z = wr := ⟨_, rfl⟩
         subst hws
         by_cases hlt : k < 3
         . obtain ⟨y0, y1, y2⟩ := HC5.out ws hI.out.1.ext
           have hk3 : (k : Int) < 3 := by omega
           go_wp2_with fail
           refine (zg1 ws _ Quo.c3 (HCF.out ws hI.out.1.ext)).mono ?_
           rintro e w4 ⟨h, hE4⟩
           rcases h with ⟨xs, _, rfl, SS0, hse⟩ | ⟨h, _⟩
           case inr => exact absurd Quo.c3_right (by rw [h]; decide)
           have HSE0 := Hi (And.intro hE4 hse)
           have hat4 := (hI.out.1.extend hE4).at'
           have x1 : w4.cell? ⟨q, 1, none⟩ = some (.slice (some ⟨lb, 0, none⟩) 3 lc) := zaa hat4 1
           clear hse hE4 hat4 y0 y1 y2
           go_wp2_with fail
           go_loopw [18, 19, 20, 121] (fun b _ _ i wi => ∃ (j : Nat) (bb : Bool) (se : Quo.Se) (SS : Nat -> Prop), j <= 3 /\ i = .int .i64 j /\ b = .bool bb /\ Hid (Ext ws wi /\ IsSe wi ws.heap.size SS xs se /\ (bb = true -> se = ⟨Quo.c3, Quo.heardOf x k j⟩ /\ ∀ i, i < j -> i ≠ k -> (x.r i).w.sealed = true))) (fun _ _ _ i _ => 3 - (intOf i).toNat)
           case atStart => exact ⟨0, true, _, _, by omega, rfl, rfl, Hi ⟨HSE0.out.1, HSE0.out.2, fun _ => ⟨rfl, fun i hi => by omega⟩⟩⟩
           case round =>
            obtain ⟨j, bb, se, SS, hj, rfl, rfl, hJ⟩ := hrel
            by_cases hlj : j < 3
            . have hj3 : (j : Int) < 3 := by omega
              have hFi := hI.out.1.extend hJ.out.1
              have hcj := hFi.repAt hlj
              have HFI := Hi hFi
              clear hFi
              by_cases hjk : j = k
              . subst hjk
                go_wp2_with fail
                go_roundw
                case rel => exact ⟨j + 1, bb, se, SS, by omega, by go_num, rfl, Hi ⟨hJ.out.1, hJ.out.2.1, fun hb => by
                 obtain ⟨h1, h2⟩ := hJ.out.2.2 hb
                 refine ⟨?_, fun i hi hne => h2 i (by omega) hne⟩
                 rw [h1]
                 simp only [Quo.heardOf, if_true, List.append_nil]⟩⟩
                case measure => simp [intOf]; omega
              . have hjk' : ((j : Int) != (k : Int)) = true := by simp; omega
                cases bb with
                | false =>
                 go_wp2_with fail
                 go_roundw
                 case rel => exact ⟨j + 1, false, se, SS, by omega, by go_num, rfl, Hi ⟨hJ.out.1, hJ.out.2.1, fun hb => by cases hb⟩⟩
                 case measure => simp [intOf]; omega
                | true =>
                 obtain ⟨rp, rva, rvp, rev, res, hrep⟩ := (HFI.out.re j hlj).rep
                 obtain ⟨sb, hsb⟩ : ∃ z, (x.r j).w.sealed = z := ⟨_, rfl⟩
                 have HSB := Hi hsb
                 have hse11 := zjd hrep.at'
                 rw [hsb] at hse11
                 have HSE11 := Hi hse11
                 clear hsb hse11 hrep
                 go_wp2_with fail
                 refine HSE11.out.mono ?_
                 rintro e w5 ⟨rfl, rfl⟩
                 cases sb with
                 | false =>
                  go_wp2_with fail
                  go_roundw
                  case rel => exact ⟨j + 1, false, se, SS, by omega, by go_num, rfl, Hi ⟨hJ.out.1, hJ.out.2.1, fun hb => by cases hb⟩⟩
                  case measure => simp [intOf]; omega
                 | true =>
                  go_wp2_with fail
                  refine (zmt (HFI.out.re j hlj).rep).mono ?_
                  unfold Own11
                  rintro e w6 ⟨u6, qs6, rfl, hE6, hrow6, hcut6, hqs6, hl6⟩
                  have HE6 := Hi (hJ.out.1.trans hE6)
                  have HR6 := Hi (And.intro hrow6 (And.intro hcut6 (And.intro hqs6 hl6)))
                  have HSS6 := Hi (show ∀ k, SS k -> k < wr.heap.size from fun k hk => (hJ.out.2.1.lt k hk).2)
                  have HS6 := Hi (hJ.out.2.1.ext hE6)
                  obtain ⟨ua, un, uc, rfl⟩ := zao hrow6
                  clear hE6 hrow6 hcut6 hqs6 hl6
                  go_wp2_with fail
                  have hjw : Wf64 (j : Int) := by
                   have : j = 0 \/ j = 1 \/ j = 2 := by omega
                   rcases this with e | e | e <;> subst e <;> rfl
                  refine (zdn HS6.out (j : Int) hjw _ qs6 HR6.out.2.2.2 (fun w' ht => ⟨SlN.ofOwn (za1 HR6.out.1 fun g hg => ht.block g (HR6.out.1.lt g hg).2 (fun e => by have h1 := HSS6.out g e; have h2 := (HR6.out.1.lt g hg).1; omega)), fun c hc => ((HR6.out.2.1 c hc).blocks fun g hg => ht.block g ((HR6.out.2.1 c hc).lt g hg).2 (fun e => by have h1 := HSS6.out g e; have h2 := ((HR6.out.2.1 c hc).lt g hg).1; omega)).row.ints⟩)).mono ?_
                  rw [HR6.out.2.2.1]
                  unfold zc9
                  obtain ⟨hb, hhb⟩ : ∃ z, se.hears (j : Int) (x.r j).w.l = z := ⟨_, rfl⟩
                  rw [hhb]
                  have HHB := Hi hhb
                  clear hhb hjw
                  rintro e w7 ⟨rfl, SS7, hse7, ht7, _⟩
                  have HS7 := Hi (show Ext ws w7 /\ IsSe w7 ws.heap.size SS7 xs (se.hear (j : Int) (x.r j).w.l) from ⟨zhf HE6.out ht7 (fun k hk => (hJ.out.2.1.lt k hk).1), hse7⟩)
                  clear hse7 ht7
                  go_wp2_with fail
                  go_roundw
                  case rel => exact ⟨j + 1, hb, _, SS7, by omega, by go_num, rfl, Hi ⟨HS7.out.1, HS7.out.2, fun hbt => by
                   obtain ⟨h1, h2⟩ := hJ.out.2.2 (by first | rfl | trivial)
                   refine ⟨?_, fun i hi hne => ?_⟩
                   . unfold Quo.Se.hear
                     rw [HHB.out, if_pos hbt, h1]
                     simp only [Quo.heardOf, hjk, if_false]
                   . by_cases e : i = j
                     . subst e; exact HSB.out
                     . exact h2 i (by omega) hne⟩⟩
                  case measure => simp [intOf]; omega
            . obtain rfl : j = 3 := by omega
              rw [show ((3 : Nat) : Int) = 3 from rfl]
              obtain ⟨wv, hwv⟩ : ∃ z, z = wr := ⟨_, rfl⟩
              subst hwv
              obtain ⟨dn, hdn⟩ : ∃ z, se.done = z := ⟨_, rfl⟩
              have HDN := Hi hdn
              clear hdn
              go_wp2_with fail
              refine (zgz hJ.out.2.1).mono ?_
              rw [HDN.out]
              unfold zd6
              rintro e w8 ⟨u8, qs8, rfl, hE8, hrow8, hqs8, hcut8⟩
              obtain ⟨ua, un, uc, rfl⟩ := zao hrow8
              have HE8 := Hi (hJ.out.1.trans hE8)
              have hwvs : ws.heap.size <= wv.heap.size := hJ.out.1.size
              have HR8 := Hi (And.intro hrow8 (And.intro hqs8 (And.intro hcut8 hwvs)))
              have HSTAY := Hi (show Fx12 W q F 3 xp X (.slice (some ⟨lb, 0, none⟩) 3 lc) mv ps x SP KP SR w8 /\ Tails12 W (Held12 F q (.slice (some ⟨lb, 0, none⟩) 3 lc) mv) (.slice ta tn tc) ts w8 /\ (∀ t ∈ ts, Quo.Tail2 x t.2) /\ ts.length <= k + 1 from ⟨hI.out.1.extend HE8.out, hI.out.2.1.move (fun k hk => ⟨hk, HE8.out.block k (hI.out.1.fre k hk.1).1.2⟩), hI.out.2.2.1, by have := hI.out.2.2.2; omega⟩)
              clear hE8 hrow8 hqs8 hcut8 hwvs
              cases bb with
              | false =>
               go_wp2_with fail
               go_roundw
               case rel => exact ⟨k + 1, F, ts, by omega, by go_num, ⟨_, _, _, rfl⟩, HSTAY⟩
               case measure => simp [intOf]; omega
              | true =>
               cases dn with
               | false =>
                go_wp2_with fail
                go_roundw
                case rel => exact ⟨k + 1, F, ts, by omega, by go_num, ⟨_, _, _, rfl⟩, HSTAY⟩
                case measure => simp [intOf]; omega
               | true =>
                have hEb : Ext w8 (w8.alloc (.cells #[.slice ua un uc] 61)) := Ext.alloc _ _
                have HEB := Hi hEb
                have hsl := zcb w8 [.slice ua un uc] 61 (by simp [maxLen])
                simp only [List.length_cons, List.length_nil] at hsl
                have HSL := Hi (SlN.ofOwn hsl)
                have HG9 := Hi (hI.out.1.grow (HE8.out.trans hEb))
                have HT9 := Hi (hI.out.2.1.move (H' := Held12 (Later F ws (w8.alloc (.cells #[.slice ua un uc] 61))) q (.slice (some ⟨lb, 0, none⟩) 3 lc) mv) (w' := w8.alloc (.cells #[.slice ua un uc] 61)) (fun k hk => ⟨hk.later _ _, (HE8.out.trans hEb).block k (hI.out.1.fre k hk.1).1.2⟩))
                have te := tEN12t
                have HK1 := Hi (show ts.length + 1 <= maxLen by have := hI.out.2.2.2; unfold maxLen; omega)
                have HK2 := Hi (show (ts.length + 1) * 24 <= 140737488355328 by have := hI.out.2.2.2; omega)
                clear hEb hsl
                go_wp2_with (at_builtin; refine zd2 rfl (.tmp 151) (.tmp 153) te rfl rfl rfl HT9.out.row HSL.out (by decide) (by simp [Value.oneCell']) HK1.out HK2.out HG9.out.ext.size ?_; intro v10 w10 hown10 hg10 hat10)
                obtain ⟨a10, n10, c10, rfl⟩ := zao hown10
                have hF10 := HG9.out.grown hg10 (fun k hk => ⟨HT9.out.rowH k hk, by obtain ⟨cur, hc⟩ := ownAt HT9.out.row hk; exact ⟨cur, _, _, hc, by decide⟩⟩)
                have hbase : ws.heap.size <= wv.heap.size := HR8.out.2.2.2
                have hWs := hI.out.1.ext.size
                have hz9 : w8.heap.size <= (w8.alloc (.cells #[.slice ua un uc] 61)).heap.size := HEB.out.size
                have hnew : ∀ k, wv.heap.size <= k -> k < w8.heap.size -> Held12 (Later (Later F ws (w8.alloc (.cells #[.slice ua un uc] 61))) (w8.alloc (.cells #[.slice ua un uc] 61)) w10) q (.slice (some ⟨lb, 0, none⟩) 3 lc) mv k := fun k h1 h2 => (hI.out.1.heldNew (w' := w8.alloc (.cells #[.slice ua un uc] 61)) (by omega) (by omega)).later _ _
                have hT10 := HT9.out.more (H' := Held12 (Later (Later F ws (w8.alloc (.cells #[.slice ua un uc] 61))) (w8.alloc (.cells #[.slice ua un uc] 61)) w10) q (.slice (some ⟨lb, 0, none⟩) 3 lc) mv) hg10 hown10 (fun k hk => by
                 have hat11 : (Value.slice a10 n10 c10).ownBlock = (Value.slice ta tn tc).ownBlock \/ (Value.slice a10 n10 c10).ownBlock = some (w8.alloc (.cells #[.slice ua un uc] 61)).heap.size := hat10
                 rcases hat11 with h1 | h1
                 . exact (HT9.out.rowH k (by rw [<- h1]; exact hk)).later _ _
                 . have hlt := (hown10.lt k hk).2
                   rw [hk] at h1
                   injection h1 with h1
                   exact HG9.out.heldNew (by omega) hlt) (za0 (zaw HR8.out.1 (by omega)) HEB.out) (fun c hc => ((HR8.out.2.2.1 c hc).lower (by omega)).ext HEB.out) (fun k hk => hnew k (HR8.out.1.lt k hk).1 (HR8.out.1.lt k hk).2) (fun c hc k hk => hnew k ((HR8.out.2.2.1 c hc).lt k hk).1 ((HR8.out.2.2.1 c hc).lt k hk).2) (fun k hk => hk.later _ _)
                have hJb := hJ.out.2.2 (by first | rfl | trivial)
                have htl : Quo.Tail2 x (qs8.map (·.2)) := by
                 rw [HR8.out.2.1]
                 exact Quo.tail2 HXX.out.2 hlt hJ.out.2.1.ok (by rw [hJb.1]) hJb.2
                have HN10 := Hi (And.intro hF10 (And.intro hT10 (And.intro (show ∀ t ∈ ts ++ [(Value.slice ua un uc, qs8.map (·.2))], Quo.Tail2 x t.2 from fun t ht => by
                 rcases List.mem_append.1 ht with ht | ht
                 . exact hI.out.2.2.1 t ht
                 . obtain rfl := List.mem_singleton.1 ht
                   exact htl) (show (ts ++ [(Value.slice ua un uc, qs8.map (·.2))]).length <= k + 1 by rw [List.length_append]; have := hI.out.2.2.2; simp; omega))))
                clear hF10 hbase hWs hz9 hnew hT10 hJb htl hown10 hg10 hat10
                go_wp2_with fail
                go_roundw
                case rel => exact ⟨k + 1, _, _, by omega, by go_num, ⟨_, _, _, rfl⟩, HN10⟩
                case measure => simp [intOf]; omega
         . obtain rfl : k = 3 := by omega
           rw [show ((3 : Nat) : Int) = 3 from rfl]
           have HI0 := Hi (And.intro hI.out.1 (And.intro HXX.out.1 (And.intro HXX.out.2 (And.intro hI.out.2.1 hI.out.2.2.1))))
           clear hI HI1 HXX
           go_wp2_with fail
           go_loopw [24, 158] (fun _ i wr => ∃ (k : Nat) (F : Nat -> Prop) (mv : Value) (ps : List (Value × Ent.E)) (SP KP : Nat -> Prop) (SR : Nat -> Nat -> Prop) (x : Quo.Fx), k <= n2 /\ i = .int .i64 k /\ Hid (Fx12 W q F 3 xp X (.slice (some ⟨lb, 0, none⟩) 3 lc) mv ps x SP KP SR wr /\ ps.map (·.2) = x.p.l /\ Quo.Inv x /\ Tails12 W (Held12 F q (.slice (some ⟨lb, 0, none⟩) 3 lc) mv) (.slice ta tn tc) ts wr /\ ∀ t ∈ ts, Quo.Tail2 x t.2)) (fun _ i _ => n2 - (intOf i).toNat)
           case atStart => exact ⟨0, _, _, _, _, _, _, _, by omega, rfl, Hi ⟨HI0.out.1, HI0.out.2.1, HI0.out.2.2.1, HI0.out.2.2.2.1, HI0.out.2.2.2.2⟩⟩
           case round =>
            obtain ⟨k, F, mv, ps, SP, KP, SR, x, hk, rfl, hI⟩ := hrel
            by_cases hlt : k < n2
            . have hkl : k < l2.length := by rw [HN.out.2]; exact hlt
              obtain ⟨b, off, rfl, c0, c1, c2, c3⟩ := (HSTP2.out wr hI.out.1.ext).at k hkl
              have hwd := HWD.out.2 l2[k] (List.getElem_mem hkl)
              obtain ⟨⟨kd, who, sn, lost⟩, hst⟩ : ∃ z, l2[k] = z := ⟨_, rfl⟩
              rw [hst] at c0 c1 c2 c3 hwd
              simp only at c0 c1 c2 c3
              have HWDK := Hi hwd
              have hE4 : Ext wr (wr.alloc (.cells #[.int .i64 kd, .int .i64 who, .int .i64 sn, .bool lost] 73)) := Ext.alloc _ _
              have hn4 := heap_alloc_new wr (.cells #[.int .i64 kd, .int .i64 who, .int .i64 sn, .bool lost] 73)
              obtain ⟨q9, hq9⟩ : ∃ z, wr.heap.size = z := ⟨_, rfl⟩
              obtain ⟨w4, hw4⟩ : ∃ z, wr.alloc (.cells #[.int .i64 kd, .int .i64 who, .int .i64 sn, .bool lost] 73) = z := ⟨_, rfl⟩
              rw [hw4] at hE4 hn4
              rw [hq9] at hn4
              have HW4 := Hi (And.intro hw4 hq9)
              have HE4 := Hi hE4
              have HF4 := Hi (hI.out.1.extend hE4)
              have y0 : w4.cell? ⟨q9, 0, none⟩ = some (.int .i64 kd) := zaa hn4 0
              have y1 : w4.cell? ⟨q9, 1, none⟩ = some (.int .i64 who) := zaa hn4 1
              have y2 : w4.cell? ⟨q9, 2, none⟩ = some (.int .i64 sn) := zaa hn4 2
              have y3 : w4.cell? ⟨q9, 3, none⟩ = some (.bool lost) := zaa hn4 3
              clear hst hwd hE4 hn4 hq9 hw4 hkl
              go_upto_region 41 with fail
              rw [HW4.out.1, HW4.out.2]
              clear c0 c1 c2 c3
              go_wp2_with fail
              refine (zg6 HF4.out hI.out.2.2.1 hI.out.2.1 ⟨kd, who, sn, lost⟩ HWDK.out.1 HWDK.out.2.1 HWDK.out.2.2).mono ?_
              unfold zea
              rintro e w5 ⟨rfl, F5, mv5, ps5, SP5, KP5, SR5, hF5, hL5, hh5⟩
              have HN5 := Hi (show Fx12 W q F5 3 xp X (.slice (some ⟨lb, 0, none⟩) 3 lc) mv5 ps5 (x.step ⟨kd, who, sn, lost⟩) SP5 KP5 SR5 w5 /\ ps5.map (·.2) = (x.step ⟨kd, who, sn, lost⟩).p.l /\ Quo.Inv (x.step ⟨kd, who, sn, lost⟩) /\ Tails12 W (Held12 F5 q (.slice (some ⟨lb, 0, none⟩) 3 lc) mv5) (.slice ta tn tc) ts w5 /\ ∀ t ∈ ts, Quo.Tail2 (x.step ⟨kd, who, sn, lost⟩) t.2 from ⟨hF5, hL5, (Quo.step_inv hI.out.2.2.1 _).1, hI.out.2.2.2.1.move (fun k hk => ⟨(hh5 k hk).1, (hh5 k hk).2.trans (HE4.out.block k (hI.out.1.fre k hk.1).1.2)⟩), fun t ht => (hI.out.2.2.2.2 t ht).step hI.out.2.2.1 _⟩)
              clear hF5 hL5 hh5 y0 y1 y2 y3
              go_wp2_with fail
              go_roundw
              case rel => exact ⟨k + 1, _, _, _, _, _, _, _, by omega, by go_num, HN5⟩
              case measure => simp [intOf]; omega
            . obtain rfl : k = n2 := by omega
              obtain ⟨wt, hwt⟩ : ∃ z, z = wr := ⟨_, rfl⟩
              subst hwt
              have htn := zcv hI.out.2.2.2.1.row
              obtain ⟨cn, hcn⟩ : ∃ cn : Nat, x.p.committed = (cn : Int) := ⟨x.p.committed.toNat, by have := (Quo.committed_le hI.out.1.pr.pr.ok).1; omega⟩
              have HCN := Hi (And.intro hcn (show cn <= x.p.l.length by have := (Quo.committed_le hI.out.1.pr.pr.ok).2; omega))
              have hat := hI.out.1.at'
              have p0 : wt.cell? ⟨q, 0, none⟩ = some (.pointer (some ⟨xp, 0, none⟩)) := zaa hat 0
              have HTN := Hi htn
              clear hcn hat htn
              go_wp2_with fail
              refine (zdg hI.out.1.pr.pr).mono ?_
              rw [HCN.out.1]
              rintro e w6 ⟨rfl, hE6⟩
              have HE6 := Hi hE6
              have HF6 := Hi (hI.out.1.extend hE6)
              obtain ⟨ma, mn, mc, rfl⟩ := zao hI.out.1.made
              have hmn : mn = x.p.l.length := by
               have h1 := zcv hI.out.1.made
               rw [h1, <- hI.out.2.1, List.length_map]
              have hcm : cn <= mn := by rw [hmn]; exact HCN.out.2
              have h512 : mn <= 512 := by rw [hmn]; exact hI.out.1.pr.pr.ok.max
              have HMN := Hi (And.intro hmn h512)
              clear hE6 p0 hmn h512
              go_wp2_with fail
              go_loopw [27, 173] (fun _ i wr => ∃ k : Nat, k <= tn /\ i = .int .i64 k /\ Hid (Ext w6 wr)) (fun _ i _ => tn - (intOf i).toNat)
              case atStart => exact ⟨0, by omega, rfl, Hi (Ext.refl _)⟩
              case round =>
               obtain ⟨k, hk, rfl, hE⟩ := hrel
               have HFR := Hi (HF6.out.extend hE.out)
               by_cases hlt : k < tn
               . have hkt : k < ts.length := by rw [<- HTN.out]; exact hlt
                 have hts := hI.out.2.2.2.1
                 have hEr := HE6.out.trans hE.out
                 obtain ⟨tb, tcc, htv, htc1, htc2, _, htcell⟩ := rowAt12 (za0 hts.row hEr) (by omega)
                 have h63 : tn <= 9223372036854775807 := by have := HTN.out; unfold maxLen at htc2; omega
                 injection htv with e1 e2 e3
                 subst e1 e3
                 clear e2
                 have hcl := htcell k (by omega)
                 rw [List.getElem?_map, List.getElem?_eq_getElem hkt] at hcl
                 have hmem : ts[k] ∈ ts := List.getElem_mem hkt
                 obtain ⟨qs, ho, _, hcs, hqs⟩ := hts.each _ hmem
                 have hT2 := (hI.out.2.2.2.2 _ hmem).has hI.out.2.2.1
                 obtain ⟨⟨tu, tl⟩, htk⟩ : ∃ z, ts[k] = z := ⟨_, rfl⟩
                 rw [htk] at hcl ho hqs hT2
                 simp only at ho hqs hT2
                 rw [HCN.out.1] at hT2
                 obtain ⟨ua, un, uc, rfl⟩ := zao ho
                 have hun : un = qs.length := zcv ho
                 have hcu : cn <= un := by
                  have h1 := congrArg List.length hqs
                  rw [List.length_map] at h1
                  omega
                 have huc : un <= uc /\ uc <= 9223372036854775807 := by
                  obtain ⟨_, c', e, h1, h2, _⟩ := SlN.ofOwn ho
                  injection e with e1 e2 e3
                  unfold maxLen at h2
                  omega
                 have hcm2 : mn <= mc /\ mc <= 9223372036854775807 := by
                  obtain ⟨_, c', e, h1, h2, _⟩ := SlN.ofOwn HFR.out.made
                  injection e with e1 e2 e3
                  unfold maxLen at h2
                  omega
                 have HROW := Hi (show ∀ w', Ext wr w' -> SlN 6 w' (.slice ua cn uc) (qs.take cn).length (zah (qs.take cn)) /\ ∀ c ∈ qs.take cn, Ints w' c.1 c.2.cut from fun w' h => ⟨by
                  have h1 : SlN 6 w' (.slice ua un uc) qs.length (zah qs) := SlN.below (SlN.ofOwn ho) (hEr.trans h)
                  exact h1.takeE cn (by omega), fun c hc => ((hcs c (List.mem_of_mem_take hc)).1.ext (hEr.trans h)).row.ints⟩)
                 have HMAD := Hi (show ∀ w', Ext wr w' -> SlN 6 w' (.slice ma cn mc) (ps.take cn).length (zah (ps.take cn)) /\ ∀ c ∈ ps.take cn, Ints w' c.1 c.2.cut from fun w' h => ⟨by
                  have h2 := (HFR.out.extend h).made
                  have h3 := zcv h2
                  exact (SlN.ofOwn h2).takeE cn (by omega), fun c hc => ((HFR.out.extend h).cuts c (List.mem_of_mem_take hc)).row.ints⟩)
                 have HEQ := Hi (show (qs.take cn).map (·.2) = x.p.l.take cn /\ (ps.take cn).map (·.2) = x.p.l.take cn from ⟨by rw [List.map_take, hqs]; simpa using hT2.2, by rw [List.map_take, hI.out.2.1]⟩)
                 have HSLU := Hi (show ∀ wy : World, (Instr.sliceAt 61 (.slice ua un uc) none (some (.int .i64 (cn : Int))) none).run Tryz.prog wy = .ok (.slice ua cn uc) wy from fun wy => runTo (size := 6) Tryz.underlying61 (by kernel_rfl) cn (by omega) .i64)
                 have HSLM := Hi (show ∀ wy : World, (Instr.sliceAt 61 (.slice ma mn mc) none (some (.int .i64 (cn : Int))) none).run Tryz.prog wy = .ok (.slice ma cn mc) wy from fun wy => runTo (size := 6) Tryz.underlying61 (by kernel_rfl) cn (by omega) .i64)
                 have HCB := Hi (show (qs.take cn).length <= 13107 /\ (ps.take cn).length <= 13107 from ⟨by rw [List.length_take]; have := HMN.out.2; omega, by rw [List.length_take]; have := HMN.out.2; omega⟩)
                 have hnlt : ¬ (un : Int) < (cn : Int) := by omega
                 obtain ⟨wq, hwq⟩ : ∃ z, z = wr := ⟨_, rfl⟩
                 subst hwq
                 clear hts hEr htcell hmem ho hcs hqs hT2 htk hun huc hcm2
                 go_upto_region 47 with fail
                 refine zat (by kernel_rfl) Ext (fun iop v w => match iop with
                  | 0 => v = .slice ua un uc
                  | 1 => v = .int .i64 (un : Nat)
                  | 2 => v = .int .i64 (cn : Nat)
                  | 3 => v = .bool false
                  | 4 => v = .bool false
                  | 5 => v = .slice ua un uc
                  | 6 => v = .int .i64 (cn : Nat)
                  | 7 => v = .slice ua cn uc
                  | 8 => w.ownsRow wq.heap.size 46 6 v (qs.take cn).length (zah (qs.take cn))
                  | 9 => v = .pointer (some ⟨q, 0, none⟩)
                  | 10 => v = .pointer (some ⟨q, 0, none⟩)
                  | 11 => v = .pointer (some ⟨q, 2, none⟩)
                  | 12 => v = .slice ma mn mc
                  | 13 => v = .int .i64 (cn : Nat)
                  | 14 => v = .slice ma cn mc
                  | 15 => w.ownsRow wq.heap.size 46 6 v (ps.take cn).length (zah (ps.take cn))
                  | 16 => v = .bool true
                  | 17 => v = .bool false
                  | _ => v = .bool false
                  ) (by kernel_rfl) (fun _ _ _ h k => Ext.trans h k) (fun a => Ext.refl a) (Ext.drew _) ?_ ?_ ?_
                 . intro iop v wa wb hF hL
                   iterate 8 (rcases iop with _ | iop; exact hF)
                   rcases iop with _ | iop; (first | exact hF | exact za0 hF hL)
                   iterate 6 (rcases iop with _ | iop; exact hF)
                   rcases iop with _ | iop; (first | exact hF | exact za0 hF hL)
                   iterate 2 (rcases iop with _ | iop; exact hF)
                   exact hF
                 . refine Obls.cons ?_ (Obls.cons ?_ (Obls.cons ?_ (Obls.cons ?_ (Obls.cons ?_ (Obls.cons ?_ (Obls.cons ?_ (Obls.cons ?_ (Obls.cons ?_ (Obls.cons ?_ (Obls.cons ?_ (Obls.cons ?_ (Obls.cons ?_ (Obls.cons ?_ (Obls.cons ?_ (Obls.cons ?_ (Obls.cons ?_ (Obls.cons ?_ (Obls.cons ?_ (Obls.nil)))))))))))))))))))
                   . intro ev wy hp hl hk hd
                     have e27 : ev _ = .slice ua un uc := hk 27 (by decide)
                     exact Yield.mv rfl ⟨Ext.refl _, e27⟩
                   . intro ev wy hp hl hk hd
                     have e177 : ev _ = _ := hk 177 (by decide)
                     exact Yield.oq (by simp [execOp, go_sem, e177])
                   . intro ev wy hp hl hk hd
                     have e25 : ev _ = .int .i64 (cn : Nat) := hk 25 (by decide)
                     exact Yield.mv rfl ⟨Ext.refl _, e25⟩
                   . intro ev wy hp hl hk hd
                     have e178 : ev _ = _ := hk 178 (by decide)
                     have e179 : ev _ = _ := hk 179 (by decide)
                     exact Yield.op (v := .bool false) (w' := wy) (by simp [execOp, go_sem, e178, e179]; omega) ⟨Ext.refl _, rfl⟩
                   . intro ev wy hp hl hk hd
                     have e180 : ev _ = _ := hk 180 (by decide)
                     exact Yield.mv rfl ⟨Ext.refl _, e180⟩
                   . intro ev wy hp hl hk hd
                     have e27 : ev _ = .slice ua un uc := hk 27 (by decide)
                     refine ⟨fun _ _ _ => ?_, fun _ hx hne => absurd hx hne⟩
                     exact Yield.mv rfl ⟨Ext.refl _, e27⟩
                   . intro ev wy hp hl hk hd
                     have e25 : ev _ = .int .i64 (cn : Nat) := hk 25 (by decide)
                     refine ⟨fun _ _ _ => ?_, fun _ hx hne => absurd hx hne⟩
                     exact Yield.mv rfl ⟨Ext.refl _, e25⟩
                   . intro ev wy hp hl hk hd
                     have e182 : ev _ = _ := hk 182 (by decide)
                     have e183 : ev _ = _ := hk 183 (by decide)
                     refine ⟨fun _ _ _ => ?_, fun _ hx hne => absurd hx hne⟩
                     exact Yield.slice rfl e182 (by simp only [Option.map_some, Option.map_none, e183]; exact HSLU.out wy) ⟨Ext.refl _, rfl⟩
                   . intro ev wy hp hl hk hd
                     have e184 : ev _ = _ := hk 184 (by decide)
                     refine ⟨fun _ _ _ => ?_, fun _ hx hne => absurd hx hne⟩
                     refine Yield.call rfl hp Tryz.func18 rfl (by kernel_rfl) ?_
                     simp only [List.map_toArray, List.map_cons, List.map_nil, e184]
                     exact ((show Calls Tryz.prog 18 #[.slice ua cn uc] wy fun e w' => ∃ u, e = .returned u /\ Ext wy w' /\ w'.ownsRow wq.heap.size 46 6 u (qs.take cn).length (zah (qs.take cn)) from (zd0 _ (qs.take cn) wy (HROW.out wy hl).1 (HROW.out wy hl).2 HCB.out.1).mono fun e w' ⟨u, h1, h2, h3⟩ => ⟨u, h1, h3, zaw h2 hl.size⟩)).mono fun _ _ ⟨u, he, hb, hu⟩ => ⟨u, he, hb, hu⟩
                   . intro ev wy hp hl hk hd
                     have e6 : ev _ = .pointer (some ⟨q, 0, none⟩) := hk 6 (by decide)
                     refine ⟨fun _ _ _ => ?_, fun _ hx hne => absurd hx hne⟩
                     exact Yield.mv rfl ⟨Ext.refl _, e6⟩
                   . intro ev wy hp hl hk hd
                     have e186 : ev _ = _ := hk 186 (by decide)
                     refine ⟨fun _ _ _ => ?_, fun _ hx hne => absurd hx hne⟩
                     exact Yield.op (v := .pointer (some ⟨q, 0, none⟩)) (w' := wy) (by simp [execOp, go_sem, e186]) ⟨Ext.refl _, rfl⟩
                   . intro ev wy hp hl hk hd
                     have e187 : ev _ = _ := hk 187 (by decide)
                     refine ⟨fun _ _ _ => ?_, fun _ hx hne => absurd hx hne⟩
                     exact Yield.op (v := .pointer (some ⟨q, 2, none⟩)) (w' := wy) (by simp [execOp, go_sem, e187]) ⟨Ext.refl _, rfl⟩
                   . intro ev wy hp hl hk hd
                     have e188 : ev _ = _ := hk 188 (by decide)
                     refine ⟨fun _ _ _ => ?_, fun _ hx hne => absurd hx hne⟩
                     exact Yield.load rfl e188 (by simp [go_sem, zaa (HFR.out.extend hl).at' 2]) ⟨Ext.refl _, rfl⟩
                   . intro ev wy hp hl hk hd
                     have e25 : ev _ = .int .i64 (cn : Nat) := hk 25 (by decide)
                     refine ⟨fun _ _ _ => ?_, fun _ hx hne => absurd hx hne⟩
                     exact Yield.mv rfl ⟨Ext.refl _, e25⟩
                   . intro ev wy hp hl hk hd
                     have e189 : ev _ = _ := hk 189 (by decide)
                     have e190 : ev _ = _ := hk 190 (by decide)
                     refine ⟨fun _ _ _ => ?_, fun _ hx hne => absurd hx hne⟩
                     exact Yield.slice rfl e189 (by simp only [Option.map_some, Option.map_none, e190]; exact HSLM.out wy) ⟨Ext.refl _, rfl⟩
                   . intro ev wy hp hl hk hd
                     have e191 : ev _ = _ := hk 191 (by decide)
                     refine ⟨fun _ _ _ => ?_, fun _ hx hne => absurd hx hne⟩
                     refine Yield.call rfl hp Tryz.func18 rfl (by kernel_rfl) ?_
                     simp only [List.map_toArray, List.map_cons, List.map_nil, e191]
                     exact ((show Calls Tryz.prog 18 #[.slice ma cn mc] wy fun e w' => ∃ u, e = .returned u /\ Ext wy w' /\ w'.ownsRow wq.heap.size 46 6 u (ps.take cn).length (zah (ps.take cn)) from (zd0 _ (ps.take cn) wy (HMAD.out wy hl).1 (HMAD.out wy hl).2 HCB.out.2).mono fun e w' ⟨u, h1, h2, h3⟩ => ⟨u, h1, h3, zaw h2 hl.size⟩)).mono fun _ _ ⟨u, he, hb, hu⟩ => ⟨u, he, hb, hu⟩
                   . intro ev wy hp hl hk hd
                     have f185 : (fun (v : Value) (w : World) => w.ownsRow wq.heap.size 46 6 v (qs.take cn).length (zah (qs.take cn))) (ev (.tmp 185)) wy := hk 185 (by decide)
                     generalize hx185 : ev (.tmp 185) = x185 at *
                     have f192 : (fun (v : Value) (w : World) => w.ownsRow wq.heap.size 46 6 v (ps.take cn).length (zah (ps.take cn))) (ev (.tmp 192)) wy := hk 192 (by decide)
                     generalize hx192 : ev (.tmp 192) = x192 at *
                     refine ⟨fun _ _ _ => ?_, fun _ hx hne => absurd hx hne⟩
                     refine Yield.call rfl hp Tryz.func17 rfl (by kernel_rfl) ?_
                     simp only [List.map_toArray, List.map_cons, List.map_nil, hx185, hx192]
                     have h1 : Ents wy x185 (x.p.l.take cn) := by
                      have h2 := zbb (fun c hc => (HROW.out wy hl).2 c hc) (SlN.ofOwn f185)
                      rw [HEQ.out.1] at h2
                      exact h2
                     have h3 : Ents wy x192 (x.p.l.take cn) := by
                      have h2 := zbb (fun c hc => (HMAD.out wy hl).2 c hc) (SlN.ofOwn f192)
                      rw [HEQ.out.2] at h2
                      exact h2
                     exact (zh3 _ _ _ wy h1 h3).mono fun e w' ⟨he, hb⟩ => ⟨_, he, hb, rfl⟩
                   . intro ev wy hp hl hk hd
                     have e193 : ev _ = _ := hk 193 (by decide)
                     refine ⟨fun _ _ _ => ?_, fun _ hx hne => absurd hx hne⟩
                     exact Yield.op (v := .bool false) (w' := wy) (by simp [execOp, go_sem, e193]) ⟨Ext.refl _, rfl⟩
                   . intro ev wy hp hl hk hd
                     have e181 : ev _ = _ := hk 181 (by decide)
                     have e194 : ev _ = _ := hk 194 (by decide)
                     exact Yield.pick (t := false) rfl e181 ⟨Ext.refl _, e194⟩
                 . intro vals wz hz hv
                   have g177 : vals 0 = _ := hv 0 (by decide)
                   have g178 : vals 1 = _ := hv 1 (by decide)
                   have g179 : vals 2 = _ := hv 2 (by decide)
                   have g180 : vals 3 = _ := hv 3 (by decide)
                   have g181 : vals 4 = _ := hv 4 (by decide)
                   have g182 : vals 5 = _ := hv 5 (by decide)
                   have g183 : vals 6 = _ := hv 6 (by decide)
                   have g184 : vals 7 = _ := hv 7 (by decide)
                   have g185 : (fun (v : Value) (w : World) => w.ownsRow wq.heap.size 46 6 v (qs.take cn).length (zah (qs.take cn))) (vals 8) wz := hv 8 (by decide)
                   have g186 : vals 9 = _ := hv 9 (by decide)
                   have g187 : vals 10 = _ := hv 10 (by decide)
                   have g188 : vals 11 = _ := hv 11 (by decide)
                   have g189 : vals 12 = _ := hv 12 (by decide)
                   have g190 : vals 13 = _ := hv 13 (by decide)
                   have g191 : vals 14 = _ := hv 14 (by decide)
                   have g192 : (fun (v : Value) (w : World) => w.ownsRow wq.heap.size 46 6 v (ps.take cn).length (zah (ps.take cn))) (vals 15) wz := hv 15 (by decide)
                   have g193 : vals 16 = _ := hv 16 (by decide)
                   have g194 : vals 17 = _ := hv 17 (by decide)
                   have g195 : vals 18 = _ := hv 18 (by decide)
                   clear hv
                   simp only [zar, Act.put, List.setIfInBounds_toArray, List.set_cons_zero, List.set_cons_succ, g177, g178, g179, g180, g181, g182, g183, g184, g186, g187, g188, g189, g190, g191, g193, g194, g195]
                   clear g177 g178 g179 g180 g181 g182 g183 g184 g186 g187 g188 g189 g190 g191 g193 g194 g195
                   generalize vals 8 = v185 at *
                   generalize vals 15 = v192 at *
                   have HEZ := Hi (hE.out.trans hz)
                   clear hz g185 g192
                   go_wp2_with fail
                   go_roundw
                   case rel => exact ⟨k + 1, by omega, by go_num, HEZ⟩
                   case measure => simp [intOf]; omega
               . obtain rfl : k = tn := by omega
                 obtain ⟨wq, hwq⟩ : ∃ z, z = wr := ⟨_, rfl⟩
                 subst hwq
                 go_wp2_with fail
                 refine (zfp wq).mono ?_
                 rintro e w9 ⟨rfl, hE9⟩
                 have hF9 := HFR.out.extend hE9
                 have HF9 := Hi hF9
                 have p2 : w9.cell? ⟨q, 2, none⟩ = some (.slice ma mn mc) := zaa hF9.at' 2
                 have hcm3 : (cn : Int) <= (mn : Int) := by omega
                 clear hE9 hF9
                 go_wp2_with fail
                 go_ret
                 exact ⟨rfl, HE0.out.trans HF9.out.ext⟩
namespace quorumFixed
theorem own : ownKnob Tryz.prog.godebug = none := by kernel_rfl
theorem laidOut : laidOutB Tryz.prog = true := by kernel_rfl
set_option linter.unusedVariables false in
set_option maxRecDepth 100000 in
theorem lifted (os : Os) (started : os.Started) (H : Type) (enc : TypeId × Value -> H) :
 ReturnsInHanded {} Tryz.checked os 4 .any (Rows.quorumFixedSpec.pre6 enc Tryz.prog Tryz.f4 Rows.quorumFixedRow.domain false) (Rows.quorumFixedSpec.post enc Tryz.prog Tryz.f4 false true false false) := by
 refine returnsInHanded_of_change_sized (C := Tryz.checked) own started (by kernel_rfl) Tryz.func4
  (ChangeSpec.witness6 (enc := enc) (C := Tryz.checked) false ⟨#[], #[.slice none 0 0, .slice none 0 0], []⟩ 8 (by kernel_rfl) (by kernel_rfl) (by kernel_rfl) (by kernel_rfl)) ?_
 intro W base args ds gs before hval0 hW hcnd hsz _
 have hval : ∀ (j : Nat) t v, Tryz.f4.params[j]? = some t -> args[j]? = some v -> Value.okWide Tryz.prog W .any base t v := hval0
 have hW' := hW
 obtain ⟨p, q, hA0, hV, rfl, hfz, hnd⟩ := hW'
 have hA : DataW.TrodAll enc Tryz.prog W 0 (fun _ => true) true Tryz.f4.params.toList args.toList ds p := hA0
 rw [Tryz.params4] at hA hval
 obtain ⟨v0, vs0, d0, ds0, p0, q0, hargs, rfl, rfl, h0, r0⟩ := trodAll_cons hA
 obtain ⟨v1, vs1, d1, ds1, p1, q1, rfl, rfl, rfl, h1, r1⟩ := trodAll_cons r0
 obtain ⟨rfl, rfl, rfl⟩ := trodAll_nil r1
 obtain rfl : args = #[v0, v1] := by cases args; simp_all
 obtain ⟨rfl, rfl⟩ := trodVars_none hV
 have k0 := h0
 have lt0 : ∀ x ∈ p0, x.block < W.heap.size := by obtain ⟨m, hm⟩ := k0; exact DataW.trod_lt m _ _ _ hm
 obtain ⟨a0, len0, cap0, rfl⟩ := okWide_slice Tryz.underlying64 (hval 0 64 v0 rfl rfl)
 obtain ⟨l0, w0, f0⟩ : ∃ l, Steps12 W (.slice a0 len0 cap0) l /\ ∀ o ∈ l, o.Wide := by
  obtain ⟨fuel, hf⟩ := h0
  obtain ⟨v, l, hcs, hb, hft⟩ := zdz hf
  simp [Value.cells] at hcs
  subst hcs
  exact ⟨l, hb, hft⟩
 have k1 := h1
 have lt1 : ∀ x ∈ p1, x.block < W.heap.size := by obtain ⟨m, hm⟩ := k1; exact DataW.trod_lt m _ _ _ hm
 obtain ⟨a1, len1, cap1, rfl⟩ := okWide_slice Tryz.underlying64 (hval 1 64 v1 rfl rfl)
 obtain ⟨l1, w1, f1⟩ : ∃ l, Steps12 W (.slice a1 len1 cap1) l /\ ∀ o ∈ l, o.Wide := by
  obtain ⟨fuel, hf⟩ := h1
  obtain ⟨v, l, hcs, hb, hft⟩ := zdz hf
  simp [Value.cells] at hcs
  subst hcs
  exact ⟨l, hb, hft⟩
 clear hA0 hval0
 refine (quorumFixed_walk a0 len0 cap0 l0 a1 len1 cap1 l1 W w0 f0 w1 f1).mono fun e W' ⟨he, bel⟩ => ?_
 subst he
 exact ⟨_, rfl, _, _, _, [], _, [], hW, trodAll_mk1 (shut_bool Tryz.underlying4 _), (trodAll_cons_mk (Below.trod laidOut (by kernel_rfl) (of_decide_eq_true (by kernel_rfl)) k0 bel lt0) (trodAll_cons_mk (Below.trod laidOut (by kernel_rfl) (of_decide_eq_true (by kernel_rfl)) k1 bel lt1) trodAll_mk0)), rfl, bel.frame _, fun h => by cases h⟩
theorem over : Rows.quorumFixedRow.holds Tryz.pinned (OpenSpec.ofChange Rows.quorumFixedSpec) :=
 OpenClaim.holds_of_wide 4 Tryz.f4 rfl rfl rfl rfl rfl rfl rfl ⟨rfl, rfl, rfl, rfl, rfl⟩ rfl rfl rfl rfl rfl (by kernel_rfl) Tryz.func4 (by kernel_rfl)
  (of_decide_eq_true (by kernel_rfl)) (by unfold Func.isWrapper; first | (rw [if_pos (by decide +kernel)]; kernel_rfl) | (rw [if_neg (by decide +kernel)]; exact ⟨rfl, rfl⟩))
  (fun os started H enc _ => lifted os started H enc)
theorem proved : Rows.QuorumFixedSaid := over
end quorumFixed
end Go.Proofs.YtnoeconcpgdjlaaGreat
