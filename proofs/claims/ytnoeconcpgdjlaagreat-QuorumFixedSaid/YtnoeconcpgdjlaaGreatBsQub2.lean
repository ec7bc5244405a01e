import Derived.StillTailTactics
import Derived.Test.YtnoeconcpgdjlaaGreatBsEnt2
import Derived.Test.YtnoeconcpgdjlaaGreatBsLib2
import Derived.Test.YtnoeconcpgdjlaaGreatBsMath2
import Derived.Test.YtnoeconcpgdjlaaGreatBsPack2
import Derived.Test.YtnoeconcpgdjlaaGreatBsQub
import Derived.Test.YtnoeconcpgdjlaaGreatBsRp2
namespace Go.Proofs.YtnoeconcpgdjlaaGreat
set_option linter.unusedSimpArgs false
set_option linter.unusedVariables false
set_option maxRecDepth 100000
open Go.RowKit
theorem zm3 (w : World) (k who n : Int) (b : Bool) : (Instr.box 73 (.agg #[.int .i64 k, .int .i64 who, .int .i64 n, .bool b])).run Tryz.prog w = .ok (.pointer (some ⟨w.heap.size, 0, none⟩)) (w.alloc (.cells #[.int .i64 k, .int .i64 who, .int .i64 n, .bool b] 73)) := by kernel_rfl
theorem zkt (w : World) (i : Int) (t : Value) (e : Ent.E) (ht : ∃ a n c, t = .slice a n c) : (Instr.build 89 #[(0, .int .i64 3), (2, .int .i64 i), (3, .int .i64 1), (8, .agg (zab t e))]).run Tryz.prog w = .ok (.agg (zag ⟨3, 0, i, 1, 0, 0, false, Msg.rec0, e, 0, 0, Msg.conf0⟩ (.slice none 0 0) t (.slice none 0 0) (.slice none 0 0))) w := by
 obtain ⟨a, n, c, rfl⟩ := ht
 kernel_rfl
theorem zis (w : World) (i : Int) : (Instr.build 89 #[(0, .int .i64 5), (2, .int .i64 i), (3, .int .i64 1)]).run Tryz.prog w = .ok (.agg (zag ⟨5, 0, i, 1, 0, 0, false, Msg.rec0, Msg.ent0, 0, 0, Msg.conf0⟩ (.slice none 0 0) (.slice none 0 0) (.slice none 0 0) (.slice none 0 0))) w := by kernel_rfl
theorem rowAt12 {w : World} {base size n : Nat} {e : TypeId} {v : Value} {xs : List Value} (h : w.ownsRow base e size v n xs) (hn : 0 < n) : ∃ b c, v = .slice (some ⟨b, 0, none⟩) n c /\ n <= c /\ c <= maxLen /\ v.ownBlock = some b /\ ∀ j, j < n * size -> w.cell? ⟨b, j, none⟩ = xs[j]? := by
 rcases h.2 with ⟨_, e2⟩ | ⟨g, cap, cur, rfl, hb, hg, h1, h2, h3, h4⟩
 . omega
 . exact ⟨g, cap, rfl, h1, h2, rfl, fun j hj => h.cellAt j hj⟩
theorem MsgAt.ldCut12 {w : World} {q : Nat} {m : Msg.M} {a : Option Addr} {n c : Nat} (h : MsgAt 89 w q m (.slice none 0 0) (.slice a n c) (.slice none 0 0) (.slice none 0 0)) : (Instr.loadAt 89 (.pointer (some ⟨q, 0, none⟩))).run Tryz.prog w = .ok (.agg (zag m (.slice none 0 0) (.slice a n c) (.slice none 0 0) (.slice none 0 0))) w :=
 run_loadAt_mid w q 0 89 _ _ (MsgAt.range h) Tryz.underlying89 rfl (by kernel_rfl)
theorem Yield.putE12 {o : Oper} {ev : Operand -> Value} {w : World} {R : Value -> World -> Prop} {q : Nat} {t t2 : Value} {e e2 : Ent.E} (x y : Operand) (ho : o.op = .store 84 x y) (hx : ev x = .pointer (some ⟨q, 0, none⟩)) (hy : ev y = .agg (zab t2 e2)) (hat : EAt12 w q t e) (h1 : ∃ a n c, t2 = .slice a n c)
 (h : ∀ W, EAt12 W q t2 e2 -> But q w W -> R undef W) : Yield Tryz.prog o ev w R := by
 have hs : (Instr.storeAt 84 (.pointer (some ⟨q, 0, none⟩)) (.agg (zab t2 e2))).run Tryz.prog w = .ok () (w.setCells q 0 (zab t2 e2).toList) := by
  obtain ⟨_, _, _, rfl⟩ := h1
  exact run_storeAt_mid w q 0 84 _ (znw hat) (by kernel_rfl) (by simp [zab, Value.oneCell'])
 have k1 : EAt12 (w.setCells q 0 (zab t2 e2).toList) q t2 e2 := zda q _ (0, 0) (zab t2 e2).toList [] (zab t e).toList 0 w hat rfl rfl
 have k2 : But q w (w.setCells q 0 (zab t2 e2).toList) := zdo q _ _ _
 unfold Yield execOp
 simp only [ho, hx, hy]
 rw [Sem.run_bind, hs]
 exact h _ k1 k2
theorem IsPr.putNone {w w' : World} {B x b : Nat} {S K : Nat -> Prop} {p : Quo.Pr} {t t2 : Value} {e e2 : Ent.E} (h : IsPr w B S K x p) (hat : EAt12 w b t e) (h0 : e.number = 0) (hat' : EAt12 w' b t2 e2) (hb : But b w w') : IsPr w' B S K x p := by
 obtain ⟨kb, ev, es, h⟩ := h
 have hxb : x ≠ b := fun e1 => by
  subst e1
  have h1 := h.at'.heap
  rw [hat] at h1
  injection h1 with h1
  injection h1 with _ e2 _
  exact absurd e2 (by decide)
 have hkb : kb ≠ b := fun e1 => by subst e1; exact h.at'.map.no_cells hat
 have hcut : ∀ q ∈ es, ∀ k, q.1.ownBlock = some k -> k ≠ b := fun q hq k hk e1 => by
  subst e1
  obtain ⟨b', m, _, ho⟩ := h.at'.cuts q hq
  obtain ⟨cur, hc⟩ := ownAt ho hk
  rw [hat] at hc
  injection hc with hc
  injection hc with _ e2 _
  exact absurd e2 (by decide)
 refine ⟨kb, ev, es, h.x1, h.k1, h.s, h.kk, ⟨(hb.block x h.at'.lt hxb).trans h.at'.heap, ?_, h.at'.ents, fun q hq => (h.at'.cuts q hq).blocks fun k hk => hb.block k ((h.at'.cuts q hq).lt k hk).2 (hcut q hq k hk), h.at'.map.block (hb.block kb h.at'.map.lt hkb)⟩, h.ok⟩
 by_cases hev : ev.ownBlock = some b
 . have hrow := h.at'.row
   rcases hrow.2 with ⟨rfl, _⟩ | ⟨g, cap, cur, rfl, hg1, hg2, hg3, hg4, hg5, hg6⟩
   . cases hev
   . injection hev with hev
     subst hev
     cases es with
     | nil =>
      refine ⟨rfl, .inr ⟨g, cap, zab t2 e2, rfl, hg1, hat', hg3, hg4, ?_, by simp [zah]⟩⟩
      rw [hat] at hg2
      injection hg2 with hg2
      injection hg2 with hg2
      rw [<- hg5, <- hg2]
      rfl
     | cons q es =>
      exfalso
      have h1 := hrow.cellAt 0 (by simp)
      rw [zaa hat 0] at h1
      have hn : q.2.number = 0 := by
       simp [zah, zab] at h1
       omega
      have hl := h.at'.ents
      have hch := Quo.chain_number h.ok.chain (k := 0) (by rw [<- hl]; simp)
      have : (p.l[0]'(by rw [<- hl]; simp)) = q.2 := by
       simp only [<- hl]
       rfl
      rw [this] at hch
      omega
 . exact za1 h.at'.row fun k hk => hb.block k (h.at'.row.lt k hk).2 (fun e1 => hev (by rw [<- e1]; exact hk))
theorem ztr : ElemN Tryz.prog 61 84 (.agg #[.int .i64 0, .int .i64 0, .slice none 0 0, .int .i64 0, .int .i64 0, .int .i64 0]) 6 64 := ⟨Tryz.underlying61, by kernel_rfl, rfl, by omega⟩
def zea (W : World) (q : Nat) (F : Nat -> Prop) (xp : Nat) (X : Nat -> Nat) (lv mv : Value) (x : Quo.Fx) (s : Quo.Step) (w : World) (e : Ending) (w' : World) : Prop :=
 e = .returned (.tuple #[]) /\ ∃ F' mv' ps' SP' KP' SR', Fx12 W q F' 3 xp X lv mv' ps' (x.step s) SP' KP' SR' w' /\ ps'.map (·.2) = (x.step s).p.l /\ ∀ k, Held12 F q lv mv k -> Held12 F' q lv mv' k /\ w'.heap[k]? = w.heap[k]?
set_option maxHeartbeats 40000000 in
theorem zg6 {W w : World} {q xp : Nat} {F : Nat -> Prop} {X : Nat -> Nat} {lv mv : Value} {ps : List (Value × Ent.E)} {x : Quo.Fx} {SP KP : Nat -> Prop} {SR : Nat -> Nat -> Prop} (h : Fx12 W q F 3 xp X lv mv ps x SP KP SR w) (hinv : Quo.Inv x) (hL : ps.map (·.2) = x.p.l) (s : Quo.Step) (hk : Wf64 s.kind) (hwho : Wf64 s.who) (hn : Wf64 s.n) :
 Calls Tryz.prog 22 #[.pointer (some ⟨q, 0, none⟩), .agg #[.int .i64 s.kind, .int .i64 s.who, .int .i64 s.n, .bool s.lost]] w (zea W q F xp X lv mv x s w) := by
 have hbx := zm3
 obtain ⟨lb, lc, rfl, hlc1, hlc2, hlo, hlcell⟩ := rowAt12 h.lrow (by omega)
 obtain ⟨ma, mn, mc, rfl⟩ := zao h.made
 have hmn := zcv h.made
 have H := Hi h
 have HINV := Hi hinv
 have HL := Hi hL
 obtain ⟨kd, who, sn, lost⟩ := s
 simp only at hk hwho hn ⊢
 have HWF := Hi (And.intro hk (And.intro hwho hn))
 obtain ⟨i, hi⟩ : ∃ z, Quo.whoOf who = z := ⟨_, rfl⟩
 have hw3 := Quo.whoOf_lt who
 rw [hi] at hw3
 have HI := Hi (And.intro hi hw3)
 have hml : mn = x.p.l.length := by rw [hmn, <- hL, List.length_map]
 have hm512 : mn <= 512 := by rw [hml]; exact h.pr.pr.ok.max
 have HM := Hi (And.intro hmn (And.intro hml hm512))
 have hq0 := h.at'
 obtain ⟨wa, hwa⟩ : ∃ z, w.alloc (.cells #[.int .i64 kd, .int .i64 who, .int .i64 sn, .bool lost] 73) = z := ⟨_, rfl⟩
 obtain ⟨t3, ht3⟩ : ∃ z, w.heap.size = z := ⟨_, rfl⟩
 have hEa : Ext w wa := by rw [<- hwa]; exact Ext.alloc _ _
 have hsa : wa.heap[t3]? = some (.cells #[.int .i64 kd, .int .i64 who, .int .i64 sn, .bool lost] 73 (0, 0)) := by rw [<- hwa, <- ht3]; exact heap_alloc_new _ _
 have HWA := Hi (And.intro hwa (And.intro ht3 (And.intro hEa hsa)))
 have hlc := hlcell i (by omega)
 have hx3 : ((List.range 3).map fun i => Value.pointer (some ⟨X i, 0, none⟩))[i]? = some (.pointer (some ⟨X i, 0, none⟩)) := by
  rw [List.getElem?_map, List.getElem?_range hw3.1]; rfl
 rw [hx3] at hlc
 have HLC := Hi (And.intro hlc hlo)
 have hi3 := hw3.1
 clear h hinv hL hk hwho hn hml hm512 hwa ht3 hEa hsa hlcell hx3 hlc hlo hw3 hmn hi
 go_enter Tryz.func22, Tryz.ntmps22
 go_upto_region 2 with (refine zgk (by rfl) rfl ?_; intro W1 q4 hat1 hE1 hq4)
 have hE1' := hE1.out
 have hq4' := hq4.out
 have hat1' := hat1.out
 rw [HWA.out.1] at hE1' hq4'
 rw [HWA.out.2.1]
 have HE1 := Hi (HWA.out.2.2.1.trans hE1')
 have HS3 := Hi (zad HWA.out.2.2.2 hE1')
 have HQ4 := Hi (show w.heap.size <= q4 /\ q4 ≠ t3 /\ q4 < W1.heap.size from ⟨by have := HWA.out.2.2.1.size; omega, by have h1 := (Array.getElem?_eq_some_iff.1 HWA.out.2.2.2).1; omega, hat1'.lt⟩)
 have HAT := Hi hat1'
 have HF1 := Hi (H.out.extend HE1.out)
 have HB3 := Hi (show -9223372036854775808 <= Int.tmod who 3 + 3 /\ Int.tmod who 3 + 3 <= 9223372036854775807 from by
  have h1 := Int.lt_tmod_of_pos who (b := 3) (by omega)
  have h2 := Int.tmod_lt_of_pos who (b := 3) (by omega)
  omega)
 clear hbx hE1 hq4 hat1 hE1' hq4' hat1' hq0
 refine zat (by kernel_rfl) Ext (fun iop v w => match iop with
  | 0 => v = .pointer (some ⟨q, 0, none⟩)
  | 1 => v = .pointer (some ⟨q, 0, none⟩)
  | 2 => v = .pointer (some ⟨q, 1, none⟩)
  | 3 => v = .slice (some ⟨lb, 0, none⟩) 3 lc
  | 4 => v = .pointer (some ⟨t3, 1, none⟩)
  | 5 => v = .int .i64 who
  | 6 => v = .int .i64 (Int.tmod who 3)
  | 7 => v = .int .i64 (Int.tmod who 3 + 3)
  | 8 => v = .int .i64 (i : Nat)
  | 9 => v = .pointer (some ⟨lb, i, none⟩)
  | 10 => v = .pointer (some ⟨X i, 0, none⟩)
  | _ => v = .pointer (some ⟨X i, 0, none⟩)
  ) (by kernel_rfl) (fun _ _ _ h k => Ext.trans h k) (fun a => Ext.refl a) (Ext.drew _) ?_ ?_ ?_
 . intro iop v wa wb hF hL
   iterate 11 (rcases iop with _ | iop; exact hF)
   exact hF
 . refine Obls.cons ?_ (Obls.cons ?_ (Obls.cons ?_ (Obls.cons ?_ (Obls.cons ?_ (Obls.cons ?_ (Obls.cons ?_ (Obls.cons ?_ (Obls.cons ?_ (Obls.cons ?_ (Obls.cons ?_ (Obls.cons ?_ (Obls.nil))))))))))))
   . intro ev wy hp hl hk hd
     have e0 : ev _ = .pointer (some ⟨q, 0, none⟩) := hk 0 (by decide)
     exact Yield.mv rfl ⟨Ext.refl _, e0⟩
   . intro ev wy hp hl hk hd
     have e11 : ev _ = _ := hk 11 (by decide)
     exact Yield.oq (by simp [execOp, go_sem, e11])
   . intro ev wy hp hl hk hd
     have e12 : ev _ = _ := hk 12 (by decide)
     exact Yield.oq (by simp [execOp, go_sem, e12])
   . intro ev wy hp hl hk hd
     have e13 : ev _ = _ := hk 13 (by decide)
     exact Yield.load rfl e13 (by simp [go_sem, zaa (HF1.out.extend hl).at' 1]) ⟨Ext.refl _, rfl⟩
   . intro ev wy hp hl hk hd
     have e3 : ev _ = .pointer (some ⟨t3, 0, none⟩) := hk 3 (by decide)
     exact Yield.oq (by simp [execOp, go_sem, e3])
   . intro ev wy hp hl hk hd
     have e15 : ev _ = _ := hk 15 (by decide)
     exact Yield.load rfl e15 (by simp [go_sem, zaa (zad HS3.out hl) 1]) ⟨Ext.refl _, rfl⟩
   . intro ev wy hp hl hk hd
     have e16 : ev _ = _ := hk 16 (by decide)
     exact Yield.op (v := .int .i64 (Int.tmod who 3)) (w' := wy) (by simp [execOp, go_sem, e16, hp.const]) ⟨Ext.refl _, rfl⟩
   . intro ev wy hp hl hk hd
     have e17 : ev _ = _ := hk 17 (by decide)
     exact Yield.op (v := .int .i64 (Int.tmod who 3 + 3)) (w' := wy) (by simp [execOp, go_sem, e17, hp.const]; rw [IntWalk.i64_in _ HB3.out]) ⟨Ext.refl _, rfl⟩
   . intro ev wy hp hl hk hd
     have e18 : ev _ = _ := hk 18 (by decide)
     exact Yield.op (v := .int .i64 (i : Nat)) (w' := wy) (by simp [execOp, go_sem, e18, hp.const]; exact HI.out.2.2) ⟨Ext.refl _, rfl⟩
   . intro ev wy hp hl hk hd
     have e14 : ev _ = _ := hk 14 (by decide)
     have e19 : ev _ = _ := hk 19 (by decide)
     exact Yield.op (v := .pointer (some ⟨lb, i, none⟩)) (w' := wy) (by simp [execOp, go_sem, e14, e19, hi3]; try (intro hx; exact absurd hx (by omega))) ⟨Ext.refl _, rfl⟩
   . intro ev wy hp hl hk hd
     have e20 : ev _ = _ := hk 20 (by decide)
     exact Yield.load rfl e20 (by simp [go_sem, zbh hl (zbh HE1.out HLC.out.1)]) ⟨Ext.refl _, rfl⟩
   . intro ev wy hp hl hk hd
     have e21 : ev _ = _ := hk 21 (by decide)
     exact Yield.as rfl ⟨Ext.refl _, e21⟩
 . intro vals wz hz hv
   have g11 : vals 0 = _ := hv 0 (by decide)
   have g12 : vals 1 = _ := hv 1 (by decide)
   have g13 : vals 2 = _ := hv 2 (by decide)
   have g14 : vals 3 = _ := hv 3 (by decide)
   have g15 : vals 4 = _ := hv 4 (by decide)
   have g16 : vals 5 = _ := hv 5 (by decide)
   have g17 : vals 6 = _ := hv 6 (by decide)
   have g18 : vals 7 = _ := hv 7 (by decide)
   have g19 : vals 8 = _ := hv 8 (by decide)
   have g20 : vals 9 = _ := hv 9 (by decide)
   have g21 : vals 10 = _ := hv 10 (by decide)
   have g5 : vals 11 = _ := hv 11 (by decide)
   clear hv
   simp only [zar, Act.put, List.setIfInBounds_toArray, List.set_cons_zero, List.set_cons_succ, g11, g12, g13, g14, g15, g16, g17, g18, g19, g20, g21, g5]
   clear g11 g12 g13 g14 g15 g16 g17 g18 g19 g20 g21 g5
   obtain ⟨wt, hwt⟩ : ∃ z, z = wz := ⟨_, rfl⟩
   subst hwt
   have HFZ := Hi (HF1.out.extend hz)
   have HEZ := Hi (HE1.out.trans hz)
   have hs3 := zad HS3.out hz
   have HSZ := Hi hs3
   have y0 : wt.cell? ⟨t3, 0, none⟩ = some (.int .i64 kd) := zaa hs3 0
   have y1 : wt.cell? ⟨t3, 1, none⟩ = some (.int .i64 who) := zaa hs3 1
   have y2 : wt.cell? ⟨t3, 2, none⟩ = some (.int .i64 sn) := zaa hs3 2
   have HATZ := Hi (HAT.out.ext hz)
   have HQZ := Hi (show w.heap.size <= q4 /\ q4 ≠ t3 /\ q4 < wt.heap.size from ⟨HQ4.out.1, HQ4.out.2.1, Nat.lt_of_lt_of_le HQ4.out.2.2 hz.size⟩)
   have hr3 : Int.tmod (wrap64 (Int.tmod who 3 + 3)) 3 = (i : Int) := by rw [IntWalk.wrap64_in _ HB3.out]; exact HI.out.2.2
   have hr4 : Int.tmod (IntKind.i64.wrap (Int.tmod who 3 + 3)) 3 = (i : Int) := by rw [IntWalk.i64_in _ HB3.out]; exact HI.out.2.2
   clear hz hs3
   go_upto_region 4 with fail
   clear hr3 hr4 y1
   by_cases k0 : kd = 0
   . subst k0
     obtain ⟨N1, hN1⟩ : ∃ z : Int, (mn : Int) + 1 = z := ⟨_, rfl⟩
     obtain ⟨pn, hpn⟩ : ∃ z, x.p.next (Quo.cutE [N1]) (x.p.mayCut x.p.z [N1]) = z := ⟨_, rfl⟩
     obtain ⟨em, hem⟩ : ∃ z, x.p.made (Quo.cutE [N1]) (x.p.mayCut x.p.z [N1]) = z := ⟨_, rfl⟩
     obtain ⟨er, her⟩ : ∃ z, x.p.err (Quo.cutE [N1]) (x.p.mayCut x.p.z [N1]) = z := ⟨_, rfl⟩
     have HPN := Hi (And.intro hpn (And.intro hem her))
     have HN1 := Hi (show (mn : Int) + 1 = N1 /\ IntKind.i64.wrap ((mn : Int) + 1) = N1 from ⟨hN1, by rw [IntWalk.i64_in _ (by have := HM.out.2.2; omega)]; exact hN1⟩)
     clear hN1 hpn hem her
     have hN0 : Ext wt wt /\ IsPr wt W.heap.size SP KP xp x.p := ⟨Ext.refl _, HFZ.out.pr.pr⟩
     have hTW : ∀ wy, TwS SP wt wy -> wy.heap[q]? = some (.cells #[.pointer (some ⟨xp, 0, none⟩), .slice (some ⟨lb, 0, none⟩) 3 lc, .slice ma mn mc] 68 (0, 0)) := fun wy ht => (ht.block q (HFZ.out.fre q HFZ.out.fq).1.2 (HFZ.out.fre q HFZ.out.fq).2.1).trans HFZ.out.at'
     have HTW := Hi hTW
     have HN0 := Hi hN0
     have HSPZ := Hi (show ∀ k, SP k -> k < wt.heap.size from fun k hk => (HFZ.out.pr.pr.lt hk).2)
     clear hN0 hTW
     go_upto_region 6 with fail
     refine zf9 (by kernel_rfl) 16 [14] [14, 17] Ext (TwS SP) (fun iop v w => match iop with
      | 0 => v = .pointer (some ⟨q, 0, none⟩)
      | 1 => v = .pointer (some ⟨q, 0, none⟩)
      | 2 => v = .pointer (some ⟨q, 0, none⟩)
      | 3 => v = .pointer (some ⟨xp, 0, none⟩)
      | 4 => v = .pointer (some ⟨q, 0, none⟩)
      | 5 => v = .pointer (some ⟨q, 0, none⟩)
      | 6 => v = .pointer (some ⟨q, 2, none⟩)
      | 7 => v = .slice ma mn mc
      | 8 => v = .int .i64 (mn : Nat)
      | 9 => v = .int .i64 N1
      | 10 => ∃ a n c, v = .slice a n c /\ RowN wt.heap.size w (.slice a n c) [N1]
      | 11 => ∃ u, v = .tuple #[.agg (zab u em), .int .i64 er] /\ RowN wt.heap.size w u em.cut
      | 12 => ∃ u, v = .tuple #[.agg (zab u em), .int .i64 er] /\ RowN wt.heap.size w u em.cut
      | 13 => ∃ u, v = .agg (zab u em) /\ RowN wt.heap.size w u em.cut
      | 14 => v = .int .i64 er
      | _ => ∃ b, v = .pointer (some ⟨b, 0, none⟩) /\ wt.heap.size <= b /\ EAt12 w b (.slice none 0 0) Msg.ent0
      ) (fun iop v w => match iop with
      | 0 => v = .pointer (some ⟨q, 0, none⟩)
      | 1 => v = .pointer (some ⟨q, 0, none⟩)
      | 2 => v = .pointer (some ⟨q, 0, none⟩)
      | 3 => v = .pointer (some ⟨xp, 0, none⟩)
      | 4 => v = .pointer (some ⟨q, 0, none⟩)
      | 5 => v = .pointer (some ⟨q, 0, none⟩)
      | 6 => v = .pointer (some ⟨q, 2, none⟩)
      | 7 => v = .slice ma mn mc
      | 8 => v = .int .i64 (mn : Nat)
      | 9 => v = .int .i64 N1
      | 10 => True
      | 11 => ∃ u, v = .tuple #[.agg (zab u em), .int .i64 er]
      | 12 => ∃ u, v = .tuple #[.agg (zab u em), .int .i64 er]
      | 13 => True
      | 14 => v = .int .i64 er
      | 15 => ∃ b u, v = .pointer (some ⟨b, 0, none⟩) /\ wt.heap.size <= b /\ EAt12 w b u em /\ RowN wt.heap.size w u em.cut
      | 16 => True
      | _ => v = .int .i64 er
      ) [11] (fun n w => if n = 0 then Ext wt w /\ IsPr w W.heap.size SP KP xp x.p else LeavesPr W.heap.size SP KP xp wt pn w) (fun w => LeavesPr W.heap.size SP KP xp wt pn w) (by kernel_rfl) (by kernel_rfl) (by kernel_rfl) (by kernel_rfl) (by decide) (fun _ _ _ h k => TwS.trans h k) (fun a => Ext.refl a) (fun _ _ h => TwS.ext h) (fun n _ _ h hs => by cases n with | zero => exact ⟨hs.1.trans h, IsPr.ext hs.2 h⟩ | succ n => exact LeavesPr.ext hs h) (Ext.drew _) HN0.out ?_ ?_ ?_ ?_ ?_ ?_
     . intro iop v wa wb hF hL
       iterate 10 (rcases iop with _ | iop; exact hF)
       iterate 4 (rcases iop with _ | iop; (first | exact hF | (obtain ⟨a, n, c, h1, h2⟩ := hF; exact ⟨a, n, c, h1, h2.blocks fun g hg => hL.block g (h2.lt g hg).2 (fun e => by have h3 := HSPZ.out g e; have h4 := (h2.lt g hg).1; omega)⟩) | (obtain ⟨u, h1, h2⟩ := hF; exact ⟨u, h1, h2.blocks fun g hg => hL.block g (h2.lt g hg).2 (fun e => by have h3 := HSPZ.out g e; have h4 := (h2.lt g hg).1; omega)⟩) | (obtain ⟨b, h1, h2, h3⟩ := hF; exact ⟨b, h1, h2, h3.block (hL.block b h3.lt (fun e => by have := HSPZ.out b e; omega))⟩)))
       rcases iop with _ | iop; exact hF
       (first | exact hF | (obtain ⟨a, n, c, h1, h2⟩ := hF; exact ⟨a, n, c, h1, h2.blocks fun g hg => hL.block g (h2.lt g hg).2 (fun e => by have h3 := HSPZ.out g e; have h4 := (h2.lt g hg).1; omega)⟩) | (obtain ⟨u, h1, h2⟩ := hF; exact ⟨u, h1, h2.blocks fun g hg => hL.block g (h2.lt g hg).2 (fun e => by have h3 := HSPZ.out g e; have h4 := (h2.lt g hg).1; omega)⟩) | (obtain ⟨b, h1, h2, h3⟩ := hF; exact ⟨b, h1, h2, h3.block (hL.block b h3.lt (fun e => by have := HSPZ.out b e; omega))⟩))
     . refine Obls2.cons ?_ (Obls2.cons ?_ (Obls2.cons ?_ (Obls2.cons ?_ (Obls2.cons ?_ (Obls2.cons ?_ (Obls2.cons ?_ (Obls2.cons ?_ (Obls2.cons ?_ (Obls2.cons ?_ (Obls2.cons ?_ (Obls2.cons ?_ (Obls2.cons ?_ (Obls2.cons ?_ (Obls2.cons ?_ (Obls2.cons ?_ (Obls2.nil))))))))))))))))
       . intro ev wy ls hp hl hS hbh hk hd
         rw [if_neg (by decide)]
         have hc11 : ls 11 = false := Bool.eq_false_iff.2 fun hq => absurd (hbh.closed 1 _ rfl (hbh.closed 2 _ rfl (hbh.closed 3 _ rfl (hbh.closed 11 _ rfl (hq) 3 (by decide)) 2 (by decide)) 1 (by decide)) 0 (by decide)) (by rw [hbh.notyet]; decide)
         have hst := hS
         rw [show stage [11] ls = 0 from by simp [stage, List.filter, hc11]] at hst
         clear hc11 hS hbh
         have e0 : ev _ = .pointer (some ⟨q, 0, none⟩) := hk 0 (by decide)
         exact Yield.mv rfl ⟨Ext.refl _, e0⟩
       . intro ev wy ls hp hl hS hbh hk hd
         rw [if_neg (by decide)]
         have hc11 : ls 11 = false := Bool.eq_false_iff.2 fun hq => absurd (hbh.closed 2 _ rfl (hbh.closed 3 _ rfl (hbh.closed 11 _ rfl (hq) 3 (by decide)) 2 (by decide)) 1 (by decide)) (by rw [hbh.notyet]; decide)
         have hst := hS
         rw [show stage [11] ls = 0 from by simp [stage, List.filter, hc11]] at hst
         clear hc11 hS hbh
         have e32 : ev _ = _ := hk 32 (by decide)
         exact Yield.op (v := .pointer (some ⟨q, 0, none⟩)) (w' := wy) (by simp [execOp, go_sem, e32]) ⟨Ext.refl _, rfl⟩
       . intro ev wy ls hp hl hS hbh hk hd
         rw [if_neg (by decide)]
         have hc11 : ls 11 = false := Bool.eq_false_iff.2 fun hq => absurd (hbh.closed 3 _ rfl (hbh.closed 11 _ rfl (hq) 3 (by decide)) 2 (by decide)) (by rw [hbh.notyet]; decide)
         have hst := hS
         rw [show stage [11] ls = 0 from by simp [stage, List.filter, hc11]] at hst
         clear hc11 hS hbh
         have e33 : ev _ = _ := hk 33 (by decide)
         exact Yield.op (v := .pointer (some ⟨q, 0, none⟩)) (w' := wy) (by simp [execOp, go_sem, e33]) ⟨Ext.refl _, rfl⟩
       . intro ev wy ls hp hl hS hbh hk hd
         rw [if_neg (by decide)]
         have hc11 : ls 11 = false := Bool.eq_false_iff.2 fun hq => absurd (hbh.closed 11 _ rfl (hq) 3 (by decide)) (by rw [hbh.notyet]; decide)
         have hst := hS
         rw [show stage [11] ls = 0 from by simp [stage, List.filter, hc11]] at hst
         clear hc11 hS hbh
         have e34 : ev _ = _ := hk 34 (by decide)
         exact Yield.load rfl e34 (by simp [go_sem, zaa (HTW.out wy hl) 0]) ⟨Ext.refl _, rfl⟩
       . intro ev wy ls hp hl hS hbh hk hd
         rw [if_neg (by decide)]
         have hc11 : ls 11 = false := Bool.eq_false_iff.2 fun hq => absurd (hbh.closed 5 _ rfl (hbh.closed 6 _ rfl (hbh.closed 7 _ rfl (hbh.closed 8 _ rfl (hbh.closed 9 _ rfl (hbh.closed 10 _ rfl (hbh.closed 11 _ rfl (hq) 10 (by decide)) 9 (by decide)) 8 (by decide)) 7 (by decide)) 6 (by decide)) 5 (by decide)) 4 (by decide)) (by rw [hbh.notyet]; decide)
         have hst := hS
         rw [show stage [11] ls = 0 from by simp [stage, List.filter, hc11]] at hst
         clear hc11 hS hbh
         have e0 : ev _ = .pointer (some ⟨q, 0, none⟩) := hk 0 (by decide)
         exact Yield.mv rfl ⟨Ext.refl _, e0⟩
       . intro ev wy ls hp hl hS hbh hk hd
         rw [if_neg (by decide)]
         have hc11 : ls 11 = false := Bool.eq_false_iff.2 fun hq => absurd (hbh.closed 6 _ rfl (hbh.closed 7 _ rfl (hbh.closed 8 _ rfl (hbh.closed 9 _ rfl (hbh.closed 10 _ rfl (hbh.closed 11 _ rfl (hq) 10 (by decide)) 9 (by decide)) 8 (by decide)) 7 (by decide)) 6 (by decide)) 5 (by decide)) (by rw [hbh.notyet]; decide)
         have hst := hS
         rw [show stage [11] ls = 0 from by simp [stage, List.filter, hc11]] at hst
         clear hc11 hS hbh
         have e36 : ev _ = _ := hk 36 (by decide)
         exact Yield.op (v := .pointer (some ⟨q, 0, none⟩)) (w' := wy) (by simp [execOp, go_sem, e36]) ⟨Ext.refl _, rfl⟩
       . intro ev wy ls hp hl hS hbh hk hd
         rw [if_neg (by decide)]
         have hc11 : ls 11 = false := Bool.eq_false_iff.2 fun hq => absurd (hbh.closed 7 _ rfl (hbh.closed 8 _ rfl (hbh.closed 9 _ rfl (hbh.closed 10 _ rfl (hbh.closed 11 _ rfl (hq) 10 (by decide)) 9 (by decide)) 8 (by decide)) 7 (by decide)) 6 (by decide)) (by rw [hbh.notyet]; decide)
         have hst := hS
         rw [show stage [11] ls = 0 from by simp [stage, List.filter, hc11]] at hst
         clear hc11 hS hbh
         have e37 : ev _ = _ := hk 37 (by decide)
         exact Yield.op (v := .pointer (some ⟨q, 2, none⟩)) (w' := wy) (by simp [execOp, go_sem, e37]) ⟨Ext.refl _, rfl⟩
       . intro ev wy ls hp hl hS hbh hk hd
         rw [if_neg (by decide)]
         have hc11 : ls 11 = false := Bool.eq_false_iff.2 fun hq => absurd (hbh.closed 8 _ rfl (hbh.closed 9 _ rfl (hbh.closed 10 _ rfl (hbh.closed 11 _ rfl (hq) 10 (by decide)) 9 (by decide)) 8 (by decide)) 7 (by decide)) (by rw [hbh.notyet]; decide)
         have hst := hS
         rw [show stage [11] ls = 0 from by simp [stage, List.filter, hc11]] at hst
         clear hc11 hS hbh
         have e38 : ev _ = _ := hk 38 (by decide)
         exact Yield.load rfl e38 (by simp [go_sem, zaa (HTW.out wy hl) 2]) ⟨Ext.refl _, rfl⟩
       . intro ev wy ls hp hl hS hbh hk hd
         rw [if_neg (by decide)]
         have hc11 : ls 11 = false := Bool.eq_false_iff.2 fun hq => absurd (hbh.closed 9 _ rfl (hbh.closed 10 _ rfl (hbh.closed 11 _ rfl (hq) 10 (by decide)) 9 (by decide)) 8 (by decide)) (by rw [hbh.notyet]; decide)
         have hst := hS
         rw [show stage [11] ls = 0 from by simp [stage, List.filter, hc11]] at hst
         clear hc11 hS hbh
         have e39 : ev _ = _ := hk 39 (by decide)
         exact Yield.op (v := .int .i64 (mn : Nat)) (w' := wy) (by simp [execOp, go_sem, e39]) ⟨Ext.refl _, rfl⟩
       . intro ev wy ls hp hl hS hbh hk hd
         rw [if_neg (by decide)]
         have hc11 : ls 11 = false := Bool.eq_false_iff.2 fun hq => absurd (hbh.closed 10 _ rfl (hbh.closed 11 _ rfl (hq) 10 (by decide)) 9 (by decide)) (by rw [hbh.notyet]; decide)
         have hst := hS
         rw [show stage [11] ls = 0 from by simp [stage, List.filter, hc11]] at hst
         clear hc11 hS hbh
         have e40 : ev _ = _ := hk 40 (by decide)
         exact Yield.op (v := .int .i64 N1) (w' := wy) (by simp [execOp, go_sem, e40, hp.const, HN1.out.2]) ⟨Ext.refl _, rfl⟩
       . intro ev wy ls hp hl hS hbh hk hd
         rw [if_neg (by decide)]
         have hc11 : ls 11 = false := Bool.eq_false_iff.2 fun hq => absurd (hbh.closed 11 _ rfl (hq) 10 (by decide)) (by rw [hbh.notyet]; decide)
         have hst := hS
         rw [show stage [11] ls = 0 from by simp [stage, List.filter, hc11]] at hst
         clear hc11 hS hbh
         have e41 : ev _ = _ := hk 41 (by decide)
         exact Yield.op (v := .slice (some ⟨wy.heap.size, 0, none⟩) 1 1) (w' := wy.alloc (.cells #[.int .i64 N1] 3)) (by simp [execOp, go_sem, e41]) ⟨Ext.alloc _ _, _, _, _, rfl, _, _, hl.size, zlb wy N1⟩
       . intro ev wy ls hp hl hS hbh hk hd
         rw [if_pos (by decide)]
         have hc11 : ls 11 = false := hbh.notyet
         have hst := hS
         rw [show stage [11] ls = 0 from by simp [stage, List.filter, hc11]] at hst
         have hup : stage [11] (upd ls 11) = 1 := by simp [stage, List.filter, upd, hc11]
         clear hc11 hS hbh
         have e35 : ev _ = _ := hk 35 (by decide)
         have f42 : (fun (v : Value) (w : World) => ∃ a n c, v = .slice a n c /\ RowN wt.heap.size w (.slice a n c) [N1]) (ev (.tmp 42)) wy := hk 42 (by decide)
         generalize hx42 : ev (.tmp 42) = x42 at *
         obtain ⟨a, n, c, h42, hrow⟩ := f42
         subst h42
         refine Yield.call rfl hp Tryz.func28 rfl (by kernel_rfl) ?_
         simp only [List.map_toArray, List.map_cons, List.map_nil, e35, hx42]
         obtain ⟨hE, hIP⟩ := hst
         refine (zeo hIP _ [N1] hrow.row.ints).mono ?_
         unfold zdc
         rw [HPN.out.1, HPN.out.2.1, HPN.out.2.2]
         rintro e w' ⟨u, he, hu, hlv⟩
         have hlv2 := LeavesPr.since hE hlv
         exact ⟨_, he, (by obtain ⟨S', K', _, h2, _⟩ := hlv; exact h2), ⟨u, rfl, hu.lower hE.size⟩, by rw [hup]; exact hlv2⟩
       . intro ev wy ls hp hl hS hbh hk hd
         rw [if_neg (by decide)]
         have hc11 : ls 11 = true := hbh.ready 11 (by decide)
         have hst := hS
         rw [show stage [11] ls = 1 from by simp [stage, List.filter, hc11]] at hst
         clear hc11 hS hbh
         have f43 : (fun (v : Value) (w : World) => ∃ u, v = .tuple #[.agg (zab u em), .int .i64 er] /\ RowN wt.heap.size w u em.cut) (ev (.tmp 43)) wy := hk 43 (by decide)
         generalize hx43 : ev (.tmp 43) = x43 at *
         exact Yield.mv rfl ⟨Ext.refl _, by rw [hx43]; exact f43⟩
       . intro ev wy ls hp hl hS hbh hk hd
         rw [if_neg (by decide)]
         have hc11 : ls 11 = true := hbh.closed 12 _ rfl (hbh.ready 12 (by decide)) 11 (by decide)
         have hst := hS
         rw [show stage [11] ls = 1 from by simp [stage, List.filter, hc11]] at hst
         clear hc11 hS hbh
         have f31 : (fun (v : Value) (w : World) => ∃ u, v = .tuple #[.agg (zab u em), .int .i64 er] /\ RowN wt.heap.size w u em.cut) (ev (.tmp 31)) wy := hk 31 (by decide)
         generalize hx31 : ev (.tmp 31) = x31 at *
         obtain ⟨u, h31, hr⟩ := f31
         subst h31
         exact Yield.op (w' := wy) (by simp [execOp, go_sem, hx31]) ⟨Ext.refl _, u, rfl, hr⟩
       . intro ev wy ls hp hl hS hbh hk hd
         rw [if_neg (by decide)]
         have hc11 : ls 11 = true := hbh.closed 12 _ rfl (hbh.ready 12 (by decide)) 11 (by decide)
         have hst := hS
         rw [show stage [11] ls = 1 from by simp [stage, List.filter, hc11]] at hst
         clear hc11 hS hbh
         have f31 : (fun (v : Value) (w : World) => ∃ u, v = .tuple #[.agg (zab u em), .int .i64 er] /\ RowN wt.heap.size w u em.cut) (ev (.tmp 31)) wy := hk 31 (by decide)
         generalize hx31 : ev (.tmp 31) = x31 at *
         obtain ⟨u, h31, hr⟩ := f31
         subst h31
         exact Yield.op (w' := wy) (by simp [execOp, go_sem, hx31]) ⟨Ext.refl _, rfl⟩
       . intro ev wy ls hp hl hS hbh hk hd
         rw [if_neg (by decide)]
         clear hS hbh
         exact Yield.op (v := .pointer (some ⟨wy.heap.size, 0, none⟩)) (w' := wy.alloc (.cells (zab (.slice none 0 0) Msg.ent0) 84)) (by simp [execOp]; kernel_rfl) ⟨Ext.alloc _ _, _, rfl, hl.size, heap_alloc_new _ _⟩
     . decide
     . refine ⟨rfl, ?_⟩
       intro ev vals wy hp hl hS hF hev hk
       have ev7 : ev (.tmp 7) = vals 15 := hev 15 _ 7 rfl (by decide) (by decide) rfl
       have fv7 : (fun (v : Value) (w : World) => ∃ b, v = .pointer (some ⟨b, 0, none⟩) /\ wt.heap.size <= b /\ EAt12 w b (.slice none 0 0) Msg.ent0) (vals 15) wy := hF 15 (by decide) (by decide)
       have ev44 : ev (.tmp 44) = vals 13 := hev 13 _ 44 rfl (by decide) (by decide) rfl
       have fv44 : (fun (v : Value) (w : World) => ∃ u, v = .agg (zab u em) /\ RowN wt.heap.size w u em.cut) (vals 13) wy := hF 13 (by decide) (by decide)
       obtain ⟨b, fv7', hb1, hb2⟩ := fv7
       obtain ⟨u, fv44', hu⟩ := fv44
       have hS1 : LeavesPr W.heap.size SP KP xp wt pn wy := by simpa using hS
       obtain ⟨S', K', hi1, hi2, hi3, hi4⟩ := hS1
       refine Yield.putE12 (.tmp 7) (.tmp 44) rfl (by rw [ev7, fv7']) (by rw [ev44, fv44']) hb2 (zan hu.row.ints) fun W' hatW hBW => ?_
       have hroW : RowN wt.heap.size W' u em.cut := hu.blocks fun g hg => hBW.block g (hu.lt g hg).2 (fun e1 => by
        obtain ⟨b', m, _, ho⟩ := id hu
        obtain ⟨cur, hc⟩ := ownAt ho hg
        rw [e1, hb2] at hc
        injection hc with hc
        injection hc with _ e2 _
        exact absurd e2 (by decide))
       refine ⟨trivial, ⟨S', K', hi1.putNone hb2 rfl hatW hBW, hi2.andThen (TwS.but (S := fun k => k = b) hBW rfl) (fun k hk e1 => by omega), hi3, hi4⟩, ?k3, ?k4⟩
       case k3 =>
        intro i hi hf
        rcases i with _ | i; exact hF 0 (by decide) (by decide)
        rcases i with _ | i; exact hF 1 (by decide) (by decide)
        rcases i with _ | i; exact hF 2 (by decide) (by decide)
        rcases i with _ | i; exact hF 3 (by decide) (by decide)
        rcases i with _ | i; exact hF 4 (by decide) (by decide)
        rcases i with _ | i; exact hF 5 (by decide) (by decide)
        rcases i with _ | i; exact hF 6 (by decide) (by decide)
        rcases i with _ | i; exact hF 7 (by decide) (by decide)
        rcases i with _ | i; exact hF 8 (by decide) (by decide)
        rcases i with _ | i; exact hF 9 (by decide) (by decide)
        rcases i with _ | i; (have hj := hF 10 (by decide) (by decide); trivial)
        rcases i with _ | i; (have hj := hF 11 (by decide) (by decide); (obtain ⟨u, h1, _⟩ := hj; exact ⟨u, h1⟩))
        rcases i with _ | i; (have hj := hF 12 (by decide) (by decide); (obtain ⟨u, h1, _⟩ := hj; exact ⟨u, h1⟩))
        rcases i with _ | i; (have hj := hF 13 (by decide) (by decide); trivial)
        rcases i with _ | i; exact absurd (by decide) hf
        rcases i with _ | i; (have hj := hF 15 (by decide) (by decide); (rw [fv7']; exact ⟨_, _, rfl, hb1, hatW, hroW⟩))
        exact absurd hi (by omega)
       case k4 =>
        intro i hi u hu
        simp only [List.mem_cons, List.not_mem_nil, or_false] at hi
        subst hi; exact hu
     . intro w1 hR
       refine ⟨?_, ⟨?_, trivial⟩⟩
       . intro ev wy hp hl hk hd
         subst hl
         have f31 : (fun (v : Value) (w : World) => ∃ u, v = .tuple #[.agg (zab u em), .int .i64 er]) (ev (.tmp 31)) w1 := hk 31 (by decide)
         generalize hx31 : ev (.tmp 31) = x31 at *
         obtain ⟨u, h31⟩ := f31
         subst h31
         exact Yield.op (w' := w1) (by simp [execOp, go_sem, hx31]) ⟨rfl, rfl⟩
       . intro ev wy hp hl hk hd
         subst hl
         have e45 : ev (.tmp 45) = .int .i64 er := hk 45 (by decide)
         exact Yield.as rfl ⟨rfl, e45⟩
     . intro vals wz hR hv
       have g32 : vals 0 = _ := hv 0 (by decide)
       have g33 : vals 1 = _ := hv 1 (by decide)
       have g34 : vals 2 = _ := hv 2 (by decide)
       have g35 : vals 3 = _ := hv 3 (by decide)
       have g36 : vals 4 = _ := hv 4 (by decide)
       have g37 : vals 5 = _ := hv 5 (by decide)
       have g38 : vals 6 = _ := hv 6 (by decide)
       have g39 : vals 7 = _ := hv 7 (by decide)
       have g40 : vals 8 = _ := hv 8 (by decide)
       have g41 : vals 9 = _ := hv 9 (by decide)
       have g42 : (fun (v : Value) (w : World) => True) (vals 10) wz := hv 10 (by decide)
       have g43 : (fun (v : Value) (w : World) => ∃ u, v = .tuple #[.agg (zab u em), .int .i64 er]) (vals 11) wz := hv 11 (by decide)
       have g31 : (fun (v : Value) (w : World) => ∃ u, v = .tuple #[.agg (zab u em), .int .i64 er]) (vals 12) wz := hv 12 (by decide)
       have g44 : (fun (v : Value) (w : World) => True) (vals 13) wz := hv 13 (by decide)
       have g45 : vals 14 = _ := hv 14 (by decide)
       have g7 : (fun (v : Value) (w : World) => ∃ b u, v = .pointer (some ⟨b, 0, none⟩) /\ wt.heap.size <= b /\ EAt12 w b u em /\ RowN wt.heap.size w u em.cut) (vals 15) wz := hv 15 (by decide)
       have gn16 : (fun (v : Value) (w : World) => True) (vals 16) wz := hv 16 (by decide)
       have g8 : vals 17 = _ := hv 17 (by decide)
       clear hv
       simp only [zar, Act.put, List.setIfInBounds_toArray, List.set_cons_zero, List.set_cons_succ, g32, g33, g34, g35, g36, g37, g38, g39, g40, g41, g45, g8]
       clear g32 g33 g34 g35 g36 g37 g38 g39 g40 g41 g45 g8
       generalize vals 10 = v42 at *
       generalize vals 11 = v43 at *
       generalize vals 12 = v31 at *
       generalize vals 13 = v44 at *
       generalize vals 15 = v7 at *
       generalize vals 16 = vn16 at *
       obtain ⟨b7, t7, rfl, hb7, hat7, hrow7⟩ := g7
       clear g42 g43 g31 g44 gn16
       obtain ⟨ta, tn, tc, rfl⟩ := zan hrow7.row.ints
       obtain ⟨SP1, KP1, hF1, ht1⟩ := HFZ.out.stepP hR
       have HSTEP := Hi (show x.step ⟨0, who, sn, lost⟩ = ⟨pn, x.r⟩ by
        unfold Quo.Fx.step
        rw [if_pos rfl]
        rw [<- HPN.out.1, <- HN1.out.1, HM.out.2.1])
       have HH := Hi (show ∀ k, Held12 F q (.slice (some ⟨lb, 0, none⟩) 3 lc) (.slice ma mn mc) k -> wz.heap[k]? = w.heap[k]? from fun k hk => by
        have hf := H.out.fre k hk.1
        have hlt := hf.1.2
        exact (ht1.block k (Nat.lt_of_lt_of_le hlt HEZ.out.size) hf.2.1).trans (HEZ.out.block k hlt))
       have HFF := Hi hF1
       have HAT7 := Hi hat7
       have HR7' := Hi (hrow7.lower HFZ.out.ext.size)
       have HB7 := Hi (And.intro hb7 hrow7)
       have HSRL := Hi (show ∀ k, (Value.slice ta tn tc).ownBlock = some k -> ∀ i, i < 3 -> ¬ SR i k from fun k hk i hi hs => by
        have h1 := (hrow7.lt k hk).1
        have h2 := ((HFZ.out.re i hi).low k hs).2
        omega)
       clear hR hb7 hat7 hrow7 hF1 ht1
       by_cases he : er = 0
       case neg =>
        have he1 : (er == 0) = false := by simp [he]
        go_wp2_with fail
        refine bodyPost_ret (v := .tuple #[]) (by simp [results, Tryz.results22]) rfl ?_
        refine ⟨rfl, F, _, ps, SP1, KP1, SR, by rw [HSTEP.out]; exact HFF.out, ?_, fun k hk => ⟨hk, HH.out k hk⟩⟩
        rw [HSTEP.out]
        show _ = pn.l
        rw [<- HPN.out.1]
        unfold Quo.Pr.next
        rw [if_neg (by rw [HPN.out.2.2]; exact he)]
        exact HL.out
       case pos =>
        subst he
        have HPL := Hi (show pn.l = x.p.l ++ [em] by
         have h1 := HPN.out.2.2
         rw [<- HPN.out.1, <- HPN.out.2.1]
         unfold Quo.Pr.next Quo.Pr.made
         rw [if_pos h1, if_pos h1])
        obtain ⟨ws, hws⟩ : ∃ z, z = wz := ⟨_, rfl⟩
        subst hws
        have hat := HFF.out.at'
        have m0 : ws.cell? ⟨b7, 0, none⟩ = some (.int .i64 em.number) := zaa HAT7.out 0
        have m1 : ws.cell? ⟨b7, 1, none⟩ = some (.int .i64 em.kind) := zaa HAT7.out 1
        have m2 : ws.cell? ⟨b7, 2, none⟩ = some (.slice ta tn tc) := zaa HAT7.out 2
        have m3 : ws.cell? ⟨b7, 3, none⟩ = some (.int .i64 em.tag) := zaa HAT7.out 3
        have m4 : ws.cell? ⟨b7, 4, none⟩ = some (.int .i64 em.term) := zaa HAT7.out 4
        have m5 : ws.cell? ⟨b7, 5, none⟩ = some (.int .i64 em.pos) := zaa HAT7.out 5
        have x2 : ws.cell? ⟨q, 2, none⟩ = some (.slice ma mn mc) := zaa hat 2
        have hsz : ws.drew.heap.size = ws.heap.size := rfl
        have hE7 : Ext ws (ws.drew.alloc (.cells (zab (.slice ta tn tc) em) 84)) := (Ext.drew ws).trans (Ext.alloc _ _)
        have hE8a : Ext ws (ws.alloc (.cells (zab (.slice ta tn tc) em) 84)) := Ext.alloc _ _
        have hE8 : Ext ws (ws.alloc (.cells (zab (.slice ta tn tc) em) 84)).drew := hE8a.trans (Ext.drew _)
        have HF7 := Hi (HFF.out.extend hE7)
        have HF8 := Hi (HFF.out.extend hE8)
        have hs7 := SlN.one6 (T := 84) ws.drew (.slice ta tn tc) em
        rw [hsz] at hs7
        have HS7 := Hi hs7
        have HS8 := Hi ((SlN.one6 (T := 84) ws (.slice ta tn tc) em).below (Ext.drew _))
        have HE7 := Hi hE7
        have HE8 := Hi hE8
        have HONE := Hi (zb3 (w := ws) (ps := [(.slice ta tn tc, em)]) (by intro c hc; obtain rfl := List.mem_singleton.1 hc; exact HB7.out.2.row.ints))
        have HK1 := Hi (show ps.length + 1 <= maxLen by have := HM.out; unfold maxLen; omega)
        have HK2 := Hi (show (ps.length + 1) * 64 <= 140737488355328 by have := HM.out; omega)
        have x2a : (ws.alloc (.cells #[.int .i64 em.number, .int .i64 em.kind, .slice ta tn tc, .int .i64 em.tag, .int .i64 em.term, .int .i64 em.pos] 84)).cell? ⟨q, 2, none⟩ = some (.slice ma mn mc) := zaa (HFF.out.extend hE8a).at' 2
        have tE := ztr
        clear hE7 hE8 hE8a hs7 hsz hat y0 y2
        go_upto_region 8 with fail
        go_region_law (first
         | (rw [if_pos (by rfl)]; refine zdp (.tmp 52) (.tmp 54) tE rfl rfl rfl HF7.out.made HS7.out (by omega) HONE.out HK1.out HK2.out HF7.out.ext.size ?_; intro v9 w9 hown9 hg9 hat9; obtain ⟨a9, n9, c9, rfl⟩ := zao hown9; have hx9 := (hg9.block q (HF7.out.fre q HF7.out.fq).1.2 (zaj HF7.out.made HF7.out.at' (by decide))).trans HF7.out.at'; have k3 : w9.cell? ⟨q, 2, none⟩ = some (.slice ma mn mc) := zaa hx9 2; have z3 : w9.frozen? ⟨q, 2, none⟩ = false := zac hx9 2; have H9 := Hi (And.intro (And.intro hown9 (And.intro hg9 (And.intro hat9 hx9))) (And.intro HE7.out HF7.out)); clear hown9 hg9 hat9 hx9)
         | (rw [if_pos (by rfl)]; refine zdp (.tmp 52) (.tmp 54) tE rfl rfl rfl HF8.out.made HS8.out (by omega) HONE.out HK1.out HK2.out HF8.out.ext.size ?_; intro v9 w9 hown9 hg9 hat9; obtain ⟨a9, n9, c9, rfl⟩ := zao hown9; have hx9 := (hg9.block q (HF8.out.fre q HF8.out.fq).1.2 (zaj HF8.out.made HF8.out.at' (by decide))).trans HF8.out.at'; have k3 : w9.cell? ⟨q, 2, none⟩ = some (.slice ma mn mc) := zaa hx9 2; have z3 : w9.frozen? ⟨q, 2, none⟩ = false := zac hx9 2; have H9 := Hi (And.intro (And.intro hown9 (And.intro hg9 (And.intro hat9 hx9))) (And.intro HE8.out HF8.out)); clear hown9 hg9 hat9 hx9))
        all_goals
         go_wp2_with fail
         refine bodyPost_ret (v := .tuple #[]) (by simp [results, Tryz.results22]) rfl ?_
         obtain ⟨⟨hown9, hg9, hat9, hx9⟩, hE, hFs⟩ := H9.out
         have hq10 := heap_setCell hx9 2 (.slice a9 n9 c9)
         have hm := hFs.more (e := em) (u := .slice ta tn tc) hg9 hown9 hat9 (HR7'.out.ext hE) HSRL.out (za2 _ _ _ _) hq10
         refine ⟨rfl, _, _, _, SP1, KP1, SR, by rw [HSTEP.out]; exact hm.1, ?_, fun k hk => ⟨(hm.2 k hk).1, (hm.2 k hk).2.trans ((hE.block k ?_).trans (HH.out k hk))⟩⟩
         . rw [HSTEP.out]
           show _ = pn.l
           rw [HPL.out, List.map_append, HL.out]
           rfl
         . exact (HFF.out.fre k hk.1).1.2
   have hs6 : ∀ wy (S : Nat -> Prop), (∀ k, S k -> k < w.heap.size) -> TwS S wt wy -> wy.heap[t3]? = some (.cells #[.int .i64 kd, .int .i64 who, .int .i64 sn, .bool lost] 73 (0, 0)) := fun wy S hS ht => (ht.block t3 (Array.getElem?_eq_some_iff.1 HSZ.out).1 (fun e => by have := hS t3 e; have := HWA.out.2.1; omega)).trans HSZ.out
   have HS6 := Hi hs6
   have HSRW := Hi (show ∀ k, SR i k -> k < w.heap.size from fun k hk => ((H.out.re i hi3).low k hk).2)
   clear hs6
   by_cases k3 : kd = 3
   . subst k3
     go_wp2_with fail
     obtain ⟨rp, rva, rvp, rev, res, hrep⟩ := (HFZ.out.re i hi3).rep
     refine (zkf hrep sn (bounds_i64 HWF.out.2.2)).mono ?_
     rintro e w6 ⟨rfl, hl6⟩
     obtain ⟨SR6, hF6, ht6⟩ := HFZ.out.stepR hi3 hl6
     have HF6 := Hi (And.intro hF6 ht6)
     clear hrep hl6 hF6 ht6
     go_wp2_with fail
     refine bodyPost_ret (v := .tuple #[]) (by simp [results, Tryz.results22]) rfl ?_
     have hst : x.step ⟨3, who, sn, lost⟩ = ⟨x.p, fun j => if j = i then (x.r i).crash sn else x.r j⟩ := by
      unfold Quo.Fx.step
      rw [if_neg (by show ¬ (3 : Int) = 0; decide), if_neg (by show ¬ (3 : Int) = 1; decide), if_neg (by show ¬ (3 : Int) = 2; decide), if_pos rfl]
      congr 1
      funext j
      show (if j = Quo.whoOf who then _ else _) = _
      rw [HI.out.1]
      split
      . next e => rw [e]
      . rfl
     refine ⟨rfl, F, _, ps, SP, KP, SR6, by rw [hst]; exact HF6.out.1, by rw [hst]; exact HL.out, fun k hk => ⟨hk, ?_⟩⟩
     have hf := H.out.fre k hk.1
     exact (HF6.out.2.block k (Nat.lt_of_lt_of_le hf.1.2 HEZ.out.size) (hf.2.2.2 i hi3)).trans (HEZ.out.block k hf.1.2)
   have hx2 := zaa HFZ.out.at' 2
   simp at hx2
   by_cases k1 : kd = 1
   . subst k1
     have hstay : (sn < 1 \/ (x.p.l.length : Int) < sn) -> x.step ⟨1, who, sn, lost⟩ = x := fun h => by
      unfold Quo.Fx.step
      rw [if_neg (by show ¬ (1 : Int) = 0; decide), if_pos rfl, if_pos h]
     have HSTAY := Hi hstay
     clear hstay
     by_cases n1 : sn < 1
     . go_upto_region 10 with fail
       go_region
       all_goals go_wp2_with fail
       refine bodyPost_ret (v := .tuple #[]) (by simp [results, Tryz.results22]) rfl ?_
       refine ⟨rfl, F, _, ps, SP, KP, SR, by rw [HSTAY.out (.inl n1)]; exact HFZ.out.extend (Ext.drew _), by rw [HSTAY.out (.inl n1)]; exact HL.out, fun k hk => ⟨hk, HEZ.out.block k (H.out.fre k hk.1).1.2⟩⟩
     by_cases n2 : (mn : Int) < sn
     . have n2' : x.p.l.length = mn := HM.out.2.1.symm
       have HN2 := Hi (show (x.p.l.length : Int) < sn by rw [n2']; exact n2)
       clear n2'
       go_upto_region 10 with fail
       go_region
       all_goals go_wp2_with fail
       refine bodyPost_ret (v := .tuple #[]) (by simp [results, Tryz.results22]) rfl ?_
       refine ⟨rfl, F, _, ps, SP, KP, SR, by rw [HSTAY.out (.inr HN2.out)]; exact HFZ.out.extend (Ext.drew _), by rw [HSTAY.out (.inr HN2.out)]; exact HL.out, fun k hk => ⟨hk, HEZ.out.block k (H.out.fre k hk.1).1.2⟩⟩
     go_upto_region 10 with fail
     go_region
     all_goals go_upto_region 11 with fail
     have hEd : Ext wt wt.drew := Ext.drew _
     obtain ⟨wu, hwu⟩ : ∃ z, wt.drew = z := ⟨_, rfl⟩
     rw [hwu] at hEd ⊢
     clear hwu
     have HEU := Hi hEd
     have HFU := Hi (HFZ.out.extend hEd)
     have hmp : 0 < mn := by omega
     obtain ⟨mb, mc', hmv, _, _, _, hmcell⟩ := rowAt12 HFU.out.made (by have := HM.out.1; omega)
     injection hmv with e1 e2 e3
     subst e1
     obtain ⟨k, hk⟩ : ∃ k : Nat, sn = (k : Int) + 1 := ⟨(sn - 1).toNat, by omega⟩
     have hkm : k < mn := by omega
     have hkp : k < ps.length := by have := HM.out.1; omega
     obtain ⟨⟨et, eE⟩, hpk⟩ : ∃ z, ps[k] = z := ⟨_, rfl⟩
     have hmem : (et, eE) ∈ ps := by rw [<- hpk]; exact List.getElem_mem hkp
     obtain ⟨ea, en, ec, rfl⟩ := zan (HFU.out.cuts _ hmem).row.ints
     have hrng : ∀ wy, Ext wu wy -> wy.rangeAt mb (k * 6) (zab (.slice ea en ec) eE).toList := fun wy hl j v hj => by
      have hj6 : j < 6 := by
       have := (List.getElem?_eq_some_iff.1 hj).1
       simpa [zab] using this
      have h1 := hmcell (k * 6 + j) (by omega)
      rw [zcf ps k j hkp hj6, hpk] at h1
      have h2 : (zab (.slice ea en ec) eE).toList = [Value.int .i64 eE.number, .int .i64 eE.kind, .slice ea en ec, .int .i64 eE.tag, .int .i64 eE.term, .int .i64 eE.pos] := rfl
      rw [<- h2, hj] at h1
      exact zbh hl h1
     have hldE : ∀ wy, Ext wu wy -> (Instr.loadAt 84 (.pointer (some ⟨mb, k * 6, none⟩))).run Tryz.prog wy = .ok (.agg (zab (.slice ea en ec) eE)) wy := fun wy hl =>
      run_loadAt_mid wy mb (k * 6) 84 (zab (.slice ea en ec) eE).toList _ (hrng wy hl) Tryz.underlying84 rfl (by kernel_rfl)
     have HLDE := Hi hldE
     have HPK := Hi (And.intro hk (And.intro hkp (And.intro hpk hmem)))
     have HSNU := Hi (zad HSZ.out hEd)
     have HMV := Hi (show ∀ w, (Instr.build 89 #[(0, .int .i64 3), (2, .int .i64 (i : Nat)), (3, .int .i64 1), (8, .agg (zab (.slice ea en ec) eE))]).run Tryz.prog w = .ok (.agg (zag ⟨3, 0, (i : Nat), 1, 0, 0, false, Msg.rec0, eE, 0, 0, Msg.conf0⟩ (.slice none 0 0) (.slice ea en ec) (.slice none 0 0) (.slice none 0 0))) w from fun w => zkt w _ _ _ ⟨_, _, _, rfl⟩)
     have hik : IntKind.i64.wrap (sn - 1) = (k : Int) := by rw [hk, show (k : Int) + 1 - 1 = k by omega, IntWalk.i64_in _ (by have := HM.out.2.2; omega)]
     have HIK := Hi hik
     have hkm2 : ¬ (mn : Int) <= (k : Int) := by omega
     clear hmcell hrng hldE hpk hik hEd hk
     refine zbf (by kernel_rfl) 11 Ext (fun iop v w => match iop with
      | 0 => v = .int .i64 (i : Nat)
      | 1 => v = .pointer (some ⟨q, 0, none⟩)
      | 2 => v = .pointer (some ⟨q, 0, none⟩)
      | 3 => v = .pointer (some ⟨q, 2, none⟩)
      | 4 => v = .slice (some ⟨mb, 0, none⟩) mn mc
      | 5 => v = .pointer (some ⟨t3, 2, none⟩)
      | 6 => v = .int .i64 sn
      | 7 => v = .int .i64 (k : Nat)
      | 8 => v = .pointer (some ⟨mb, k * 6, none⟩)
      | 9 => v = .agg (zab (.slice ea en ec) eE)
      | _ => v = .agg (zag ⟨3, 0, (i : Nat), 1, 0, 0, false, Msg.rec0, eE, 0, 0, Msg.conf0⟩ (.slice none 0 0) (.slice ea en ec) (.slice none 0 0) (.slice none 0 0))
      ) (by kernel_rfl) (by kernel_rfl) (by decide) (fun _ _ _ h k => Ext.trans h k) (fun a => Ext.refl a) (Ext.drew _) ?_ ?_ ?_
     . intro iop v wa wb hF hL
       iterate 10 (rcases iop with _ | iop; exact hF)
       exact hF
     . refine Obls.cons ?_ (Obls.cons ?_ (Obls.cons ?_ (Obls.cons ?_ (Obls.cons ?_ (Obls.cons ?_ (Obls.cons ?_ (Obls.cons ?_ (Obls.cons ?_ (Obls.cons ?_ (Obls.cons ?_ (Obls.nil)))))))))))
       . intro ev wy hp hl hk hd
         have e6 : ev _ = .int .i64 (i : Nat) := hk 6 (by decide)
         exact Yield.mv rfl ⟨Ext.refl _, e6⟩
       . intro ev wy hp hl hk hd
         have e0 : ev _ = .pointer (some ⟨q, 0, none⟩) := hk 0 (by decide)
         exact Yield.mv rfl ⟨Ext.refl _, e0⟩
       . intro ev wy hp hl hk hd
         have e74 : ev _ = _ := hk 74 (by decide)
         exact Yield.oq (by simp [execOp, go_sem, e74])
       . intro ev wy hp hl hk hd
         have e75 : ev _ = _ := hk 75 (by decide)
         exact Yield.oq (by simp [execOp, go_sem, e75])
       . intro ev wy hp hl hk hd
         have e76 : ev _ = _ := hk 76 (by decide)
         exact Yield.load rfl e76 (by simp [go_sem, zaa (HFU.out.extend hl).at' 2]) ⟨Ext.refl _, rfl⟩
       . intro ev wy hp hl hk hd
         have e3 : ev _ = .pointer (some ⟨t3, 0, none⟩) := hk 3 (by decide)
         exact Yield.oq (by simp [execOp, go_sem, e3])
       . intro ev wy hp hl hk hd
         have e78 : ev _ = _ := hk 78 (by decide)
         exact Yield.load rfl e78 (by simp [go_sem, zaa (zad HSNU.out hl) 2]) ⟨Ext.refl _, rfl⟩
       . intro ev wy hp hl hk hd
         have e79 : ev _ = _ := hk 79 (by decide)
         exact Yield.op (v := .int .i64 (k : Nat)) (w' := wy) (by simp [execOp, go_sem, e79, hp.const]; exact HIK.out) ⟨Ext.refl _, rfl⟩
       . intro ev wy hp hl hk hd
         have e77 : ev _ = _ := hk 77 (by decide)
         have e80 : ev _ = _ := hk 80 (by decide)
         exact Yield.op (v := .pointer (some ⟨mb, k * 6, none⟩)) (w' := wy) (by simp [execOp, go_sem, e77, e80, hkm]; try (intro hx; exact absurd hx (by omega))) ⟨Ext.refl _, rfl⟩
       . intro ev wy hp hl hk hd
         have e81 : ev _ = _ := hk 81 (by decide)
         exact Yield.load rfl e81 (HLDE.out wy hl) ⟨Ext.refl _, rfl⟩
       . intro ev wy hp hl hk hd
         have e73 : ev _ = _ := hk 73 (by decide)
         have e82 : ev _ = _ := hk 82 (by decide)
         exact Yield.op (w' := wy) (by simp [execOp, e73, e82, hp.const, HMV.out]) ⟨Ext.refl _, rfl⟩
     . intro vals wz hz hv
       have g73 : vals 0 = _ := hv 0 (by decide)
       have g74 : vals 1 = _ := hv 1 (by decide)
       have g75 : vals 2 = _ := hv 2 (by decide)
       have g76 : vals 3 = _ := hv 3 (by decide)
       have g77 : vals 4 = _ := hv 4 (by decide)
       have g78 : vals 5 = _ := hv 5 (by decide)
       have g79 : vals 6 = _ := hv 6 (by decide)
       have g80 : vals 7 = _ := hv 7 (by decide)
       have g81 : vals 8 = _ := hv 8 (by decide)
       have g82 : vals 9 = _ := hv 9 (by decide)
       have g83 : vals 10 = _ := hv 10 (by decide)
       clear hv
       simp only [List.take_succ_cons, List.take_zero, List.drop_succ_cons, List.drop_zero]
       simp only [zar, Act.put, List.setIfInBounds_toArray, List.set_cons_zero, List.set_cons_succ, g73, g74, g75, g76, g77, g78, g79, g80, g81, g82, g83]
       clear g73 g74 g75 g76 g77 g78 g79 g80 g81 g82 g83
       have hordE : Quo.orderOf x i sn = ⟨3, 0, (i : Nat), 1, 0, 0, false, Msg.rec0, eE, 0, 0, Msg.conf0⟩ := by
        unfold Quo.orderOf
        have h1 : x.p.l.getD (sn - 1).toNat Msg.ent0 = eE := by
         have hk := HPK.out.1
         have h2 : (sn - 1).toNat = k := by omega
         rw [h2, <- HL.out, List.getD_eq_getElem?_getD, List.getElem?_map, List.getElem?_eq_getElem HPK.out.2.1, HPK.out.2.2.1]
         rfl
        rw [h1]
       have HORD := Hi hordE
       have hat5 := HATZ.out.ext (HEU.out.trans hz)
       have HZ5 := Hi (HEU.out.trans hz)
       clear hordE hz
       go_wp2_with (first
        | (refine putM (m2 := ⟨3, 0, (i : Nat), 1, 0, 0, false, Msg.rec0, eE, 0, 0, Msg.conf0⟩) (r2 := .slice none 0 0) (e2 := .slice ea en ec) (s2 := .slice none 0 0) (d2 := .slice none 0 0) (by rfl) _ _ rfl rfl rfl hat5 zap ⟨_, _, _, rfl⟩ zap zap ?_; intro W5 hat6 hB5; have hlm6 := hat6.out.ldCut12)
        | (refine ldAny (by rfl) _ rfl rfl hlm6 ?_))
       have HE5 := Hi (Ext.newQ11 (HEZ.out.trans HZ5.out) HQZ.out.1 hB5.out)
       have HF5 := Hi (H.out.extend HE5.out)
       have HS5 := Hi ((hB5.out.block t3 (Array.getElem?_eq_some_iff.1 (zad HSZ.out HZ5.out)).1 (fun e => HQZ.out.2.1 e.symm)).trans (zad HSZ.out HZ5.out))
       have HMS := Hi (show ∀ w', TwS (SR i) W5 w' -> IsMsg w' (.agg (zag ⟨3, 0, (i : Nat), 1, 0, 0, false, Msg.rec0, eE, 0, 0, Msg.conf0⟩ (.slice none 0 0) (.slice ea en ec) (.slice none 0 0) (.slice none 0 0))) ⟨3, 0, (i : Nat), 1, 0, 0, false, Msg.rec0, eE, 0, 0, Msg.conf0⟩ from fun w' ht => ⟨_, _, _, _, rfl, ints0 w', ((HF5.out.cuts _ HPK.out.2.2.2).blocks fun g hg => ht.block g ((HF5.out.cuts _ HPK.out.2.2.2).lt g hg).2 (HF5.out.fc _ HPK.out.2.2.2 g hg i hi3)).row.ints, ints0 w', zjl w'⟩)
       clear hat5 hat6 hB5 hlm6
       obtain ⟨rp, rva, rvp, rev, res, hrep⟩ := (HF5.out.re i hi3).rep
       refine (zez hrep (fun k hk => ((HF5.out.re i hi3).low k hk).2) _ (⟨3, 0, (i : Nat), 1, 0, 0, false, Msg.rec0, eE, 0, 0, Msg.conf0⟩) HMS.out).mono ?_
       unfold zcl
       rintro e w6 ⟨rfl, hl6⟩
       obtain ⟨r9, hr9⟩ : ∃ z, ((x.r i).take (⟨3, 0, (i : Nat), 1, 0, 0, false, Msg.rec0, eE, 0, 0, Msg.conf0⟩)).1 = z := ⟨_, rfl⟩
       obtain ⟨mr, hmr⟩ : ∃ z, ((x.r i).take (⟨3, 0, (i : Nat), 1, 0, 0, false, Msg.rec0, eE, 0, 0, Msg.conf0⟩)).2.1 = z := ⟨_, rfl⟩
       obtain ⟨er, her⟩ : ∃ z, ((x.r i).take (⟨3, 0, (i : Nat), 1, 0, 0, false, Msg.rec0, eE, 0, 0, Msg.conf0⟩)).2.2 = z := ⟨_, rfl⟩
       have HR9 := Hi (And.intro hr9 (And.intro hmr her))
       have HMR := Hi (show ∀ w', IsMsg w' (.agg (zag mr (.slice none 0 0) (.slice none 0 0) (.slice none 0 0) (.slice none 0 0))) mr from fun w' => by rw [<- hmr]; exact Rep.take_plain _ _ w')
       rw [hr9] at hl6
       rw [hmr, her]
       obtain ⟨SR6, hF6, ht6⟩ := HF5.out.stepR hi3 hl6
       have HF6 := Hi hF6
       have HT6 := Hi ht6
       have HS66 := Hi ((ht6.block t3 (Array.getElem?_eq_some_iff.1 HS5.out).1 (fun e => by have h1 := HSRW.out t3 e; have h2 := HWA.out.2.1; omega)).trans HS5.out)
       have HH6 := Hi (show ∀ k, Held12 F q (.slice (some ⟨lb, 0, none⟩) 3 lc) (.slice (some ⟨mb, 0, none⟩) mn mc) k -> w6.heap[k]? = w.heap[k]? from fun k hk => by
        have hf := H.out.fre k hk.1
        exact (ht6.block k (Nat.lt_of_lt_of_le hf.1.2 HE5.out.size) (hf.2.2.2 i hi3)).trans (HE5.out.block k hf.1.2))
       clear hrep hl6 hF6 ht6 hr9 hmr her
       go_upto_region 17 with (first
        | (refine zgk (by rfl) rfl ?_; intro W7 q7 hat7 hE7 hq7)
        | (refine putM (m2 := mr) (r2 := .slice none 0 0) (e2 := .slice none 0 0) (s2 := .slice none 0 0) (d2 := .slice none 0 0) (by rfl) _ _ rfl rfl rfl hat7.out zap zap zap zap ?_; intro W8 hat8 hB8))
       have hE8 : Ext w6 W8 := Ext.newQ11 hE7.out (Nat.le_of_eq hq7.out.symm) hB8.out
       have z3 : W8.cell? ⟨t3, 3, none⟩ = some (.bool lost) := zaa (zad HS66.out hE8) 3
       have HF8 := Hi (HF6.out.extend hE8)
       have HAT8 := Hi hat8.out
       have HE8 := Hi hE8
       clear hat7 hE7 hq7 hat8 hB8 hE8
       have hgive : x.step ⟨1, who, sn, lost⟩ = x.give i (⟨3, 0, (i : Nat), 1, 0, 0, false, Msg.rec0, eE, 0, 0, Msg.conf0⟩) lost := by
        unfold Quo.Fx.step
        rw [if_neg (by show ¬ (1 : Int) = 0; decide), if_pos rfl, if_neg (by
         show ¬ (sn < 1 \/ (x.p.l.length : Int) < sn)
         have h2 := HM.out.2.1
         omega)]
        show x.give (Quo.whoOf who) (Quo.orderOf x (Quo.whoOf who) sn) lost = _
        rw [HI.out.1, HORD.out]
       have HGV := Hi hgive
       have hno : ¬ (er = 0 /\ lost = false) -> x.step ⟨1, who, sn, lost⟩ = ⟨x.p, fun j => if j = i then r9 else x.r j⟩ := fun hc => by
        rw [HGV.out]
        unfold Quo.Fx.give
        rw [HR9.out.2.2, if_neg hc, HR9.out.1]
       have HNO := Hi hno
       have HKZ := Hi (show ∀ k, Held12 F q (.slice (some ⟨lb, 0, none⟩) 3 lc) (.slice (some ⟨mb, 0, none⟩) mn mc) k -> k < w6.heap.size /\ ¬ SP k from fun k hk => ⟨Nat.lt_of_lt_of_le (H.out.fre k hk.1).1.2 (Nat.le_trans HE5.out.size HT6.out.size), (H.out.fre k hk.1).2.1⟩)
       clear hgive hno
       by_cases he : er = 0
       case neg =>
        have he1 : (er == 0) = false := by simp [he]
        go_wp2_with fail
        refine bodyPost_ret (v := .tuple #[]) (by simp [results, Tryz.results22]) rfl ?_
        exact ⟨rfl, F, .slice (some ⟨mb, 0, none⟩) mn mc, ps, SP, KP, SR6, by rw [HNO.out (fun h => he h.1)]; exact HF8.out, by rw [HNO.out (fun h => he h.1)]; exact HL.out, fun k hk => ⟨hk, (HE8.out.block k (HKZ.out k hk).1).trans (HH6.out k hk)⟩⟩
       subst he
       cases lost with
       | true =>
        go_wp2_with fail
        refine bodyPost_ret (v := .tuple #[]) (by simp [results, Tryz.results22]) rfl ?_
        exact ⟨rfl, F, .slice (some ⟨mb, 0, none⟩) mn mc, ps, SP, KP, SR6, by rw [HNO.out (fun h => by cases h.2)]; exact HF8.out, by rw [HNO.out (fun h => by cases h.2)]; exact HL.out, fun k hk => ⟨hk, (HE8.out.block k (HKZ.out k hk).1).trans (HH6.out k hk)⟩⟩
       | false =>
        have hsrc : Wf64 mr.src := by
         obtain ⟨kk, _, hk⟩ := Quo.take_told HR9.out.2.2
         rw [HR9.out.2.1, HR9.out.1] at hk
         have h1 : mr.src = (i : Int) := by
          rw [hk]
          show r9.id = _
          rw [<- HR9.out.1, (Quo.take_ids _ _).1]
          exact (HINV.out.id i hi3).1
         rw [h1]
         have : i = 0 \/ i = 1 \/ i = 2 := by omega
         rcases this with e | e | e <;> subst e <;> rfl
        have HSRC := Hi hsrc
        clear hsrc
        go_upto_region 18 with fail
        refine zbf (by kernel_rfl) 5 Ext (fun iop v w => match iop with
         | 0 => v = .pointer (some ⟨q, 0, none⟩)
         | 1 => v = .pointer (some ⟨q, 0, none⟩)
         | 2 => v = .pointer (some ⟨q, 0, none⟩)
         | 3 => v = .pointer (some ⟨xp, 0, none⟩)
         | _ => v = .agg (zag mr (.slice none 0 0) (.slice none 0 0) (.slice none 0 0) (.slice none 0 0))
         ) (by kernel_rfl) (by kernel_rfl) (by decide) (fun _ _ _ h k => Ext.trans h k) (fun a => Ext.refl a) (Ext.drew _) ?_ ?_ ?_
        . intro iop v wa wb hF hL
          iterate 4 (rcases iop with _ | iop; exact hF)
          exact hF
        . refine Obls.cons ?_ (Obls.cons ?_ (Obls.cons ?_ (Obls.cons ?_ (Obls.cons ?_ (Obls.nil)))))
          . intro ev wy hp hl hk hd
            have e0 : ev _ = .pointer (some ⟨q, 0, none⟩) := hk 0 (by decide)
            exact Yield.mv rfl ⟨Ext.refl _, e0⟩
          . intro ev wy hp hl hk hd
            have e107 : ev _ = _ := hk 107 (by decide)
            exact Yield.oq (by simp [execOp, go_sem, e107])
          . intro ev wy hp hl hk hd
            have e108 : ev _ = _ := hk 108 (by decide)
            exact Yield.oq (by simp [execOp, go_sem, e108])
          . intro ev wy hp hl hk hd
            have e109 : ev _ = _ := hk 109 (by decide)
            exact Yield.load rfl e109 (by simp [go_sem, zaa (HF8.out.extend hl).at' 0]) ⟨Ext.refl _, rfl⟩
          . intro ev wy hp hl hk hd
            have e9 : ev _ = .pointer (some ⟨q7, 0, none⟩) := hk 9 (by decide)
            exact Yield.load rfl e9 (HAT8.out.ext hl).ldFree11 ⟨Ext.refl _, rfl⟩
        . intro vals wz hz hv
          have g107 : vals 0 = _ := hv 0 (by decide)
          have g108 : vals 1 = _ := hv 1 (by decide)
          have g109 : vals 2 = _ := hv 2 (by decide)
          have g110 : vals 3 = _ := hv 3 (by decide)
          have g111 : vals 4 = _ := hv 4 (by decide)
          clear hv
          simp only [List.take_succ_cons, List.take_zero, List.drop_succ_cons, List.drop_zero]
          simp only [zar, Act.put, List.setIfInBounds_toArray, List.set_cons_zero, List.set_cons_succ, g107, g108, g109, g110, g111]
          clear g107 g108 g109 g110 g111
          have HF9 := Hi (HF8.out.extend hz)
          have HZ9 := Hi hz
          clear hz
          go_wp2_with fail
          refine (zcm HF9.out.pr.pr _ mr (HMR.out _) HSRC.out).mono ?_
          unfold zb8
          rintro e w9 ⟨rfl, hl9⟩
          obtain ⟨SP9, KP9, hF9, ht9⟩ := HF9.out.stepP hl9
          have HF10 := Hi (And.intro hF9 ht9)
          clear hl9 hF9 ht9
          go_wp2_with fail
          refine bodyPost_ret (v := .tuple #[]) (by simp [results, Tryz.results22]) rfl ?_
          have hyes : x.step ⟨1, who, sn, false⟩ = ⟨x.p.hear mr, fun j => if j = i then r9 else x.r j⟩ := by
           rw [HGV.out]
           unfold Quo.Fx.give
           rw [HR9.out.2.2, if_pos ⟨rfl, rfl⟩, HR9.out.1, HR9.out.2.1]
          refine ⟨rfl, F, .slice (some ⟨mb, 0, none⟩) mn mc, ps, SP9, KP9, SR6, by rw [hyes]; exact HF10.out.1, by rw [hyes]; exact HL.out.trans (Quo.hear_keeps x.p mr).2.1.symm, fun k hk => ⟨hk, ?_⟩⟩
          have hz := HKZ.out k hk
          have hE := HE8.out.trans HZ9.out
          exact (HF10.out.2.block k (Nat.lt_of_lt_of_le hz.1 hE.size) hz.2).trans ((hE.block k hz.1).trans (HH6.out k hk))
   by_cases k2 : kd = 2
   . subst k2
     have hbs := fun w => zis w (i : Nat)
     have hat5 := HATZ.out
     go_wp2_with (first
      | (refine putM (m2 := ⟨5, 0, (i : Nat), 1, 0, 0, false, Msg.rec0, Msg.ent0, 0, 0, Msg.conf0⟩) (r2 := .slice none 0 0) (e2 := .slice none 0 0) (s2 := .slice none 0 0) (d2 := .slice none 0 0) (by rfl) _ _ rfl rfl rfl hat5 zap zap zap zap ?_; intro W5 hat6 hB5; have hlm6 := hat6.out.ldFree11)
      | (refine ldAny (by rfl) _ rfl rfl hlm6 ?_))
     have HE5 := Hi (Ext.newQ11 HEZ.out HQZ.out.1 hB5.out)
     have HF5 := Hi (H.out.extend HE5.out)
     have HS5 := Hi ((hB5.out.block t3 (Array.getElem?_eq_some_iff.1 HSZ.out).1 (fun e => HQZ.out.2.1 e.symm)).trans HSZ.out)
     have HMS := Hi (show ∀ w', TwS (SR i) W5 w' -> IsMsg w' (.agg (zag ⟨5, 0, (i : Nat), 1, 0, 0, false, Msg.rec0, Msg.ent0, 0, 0, Msg.conf0⟩ (.slice none 0 0) (.slice none 0 0) (.slice none 0 0) (.slice none 0 0))) ⟨5, 0, (i : Nat), 1, 0, 0, false, Msg.rec0, Msg.ent0, 0, 0, Msg.conf0⟩ from fun w' _ => zes w' rfl rfl rfl rfl)
     clear hat5 hat6 hB5 hlm6 hbs
     obtain ⟨rp, rva, rvp, rev, res, hrep⟩ := (HF5.out.re i hi3).rep
     refine (zez hrep (fun k hk => ((HF5.out.re i hi3).low k hk).2) _ (⟨5, 0, (i : Nat), 1, 0, 0, false, Msg.rec0, Msg.ent0, 0, 0, Msg.conf0⟩) HMS.out).mono ?_
     unfold zcl
     rintro e w6 ⟨rfl, hl6⟩
     obtain ⟨r9, hr9⟩ : ∃ z, ((x.r i).take (⟨5, 0, (i : Nat), 1, 0, 0, false, Msg.rec0, Msg.ent0, 0, 0, Msg.conf0⟩)).1 = z := ⟨_, rfl⟩
     obtain ⟨mr, hmr⟩ : ∃ z, ((x.r i).take (⟨5, 0, (i : Nat), 1, 0, 0, false, Msg.rec0, Msg.ent0, 0, 0, Msg.conf0⟩)).2.1 = z := ⟨_, rfl⟩
     obtain ⟨er, her⟩ : ∃ z, ((x.r i).take (⟨5, 0, (i : Nat), 1, 0, 0, false, Msg.rec0, Msg.ent0, 0, 0, Msg.conf0⟩)).2.2 = z := ⟨_, rfl⟩
     have HR9 := Hi (And.intro hr9 (And.intro hmr her))
     have HMR := Hi (show ∀ w', IsMsg w' (.agg (zag mr (.slice none 0 0) (.slice none 0 0) (.slice none 0 0) (.slice none 0 0))) mr from fun w' => by rw [<- hmr]; exact Rep.take_plain _ _ w')
     rw [hr9] at hl6
     rw [hmr, her]
     obtain ⟨SR6, hF6, ht6⟩ := HF5.out.stepR hi3 hl6
     have HF6 := Hi hF6
     have HT6 := Hi ht6
     have HS66 := Hi ((ht6.block t3 (Array.getElem?_eq_some_iff.1 HS5.out).1 (fun e => by have h1 := HSRW.out t3 e; have h2 := HWA.out.2.1; omega)).trans HS5.out)
     have HH6 := Hi (show ∀ k, Held12 F q (.slice (some ⟨lb, 0, none⟩) 3 lc) (.slice ma mn mc) k -> w6.heap[k]? = w.heap[k]? from fun k hk => by
      have hf := H.out.fre k hk.1
      exact (ht6.block k (Nat.lt_of_lt_of_le hf.1.2 HE5.out.size) (hf.2.2.2 i hi3)).trans (HE5.out.block k hf.1.2))
     clear hrep hl6 hF6 ht6 hr9 hmr her
     go_upto_region 17 with (first
      | (refine zgk (by rfl) rfl ?_; intro W7 q7 hat7 hE7 hq7)
      | (refine putM (m2 := mr) (r2 := .slice none 0 0) (e2 := .slice none 0 0) (s2 := .slice none 0 0) (d2 := .slice none 0 0) (by rfl) _ _ rfl rfl rfl hat7.out zap zap zap zap ?_; intro W8 hat8 hB8))
     have hE8 : Ext w6 W8 := Ext.newQ11 hE7.out (Nat.le_of_eq hq7.out.symm) hB8.out
     have z3 : W8.cell? ⟨t3, 3, none⟩ = some (.bool lost) := zaa (zad HS66.out hE8) 3
     have HF8 := Hi (HF6.out.extend hE8)
     have HAT8 := Hi hat8.out
     have HE8 := Hi hE8
     clear hat7 hE7 hq7 hat8 hB8 hE8
     have hgive : x.step ⟨2, who, sn, lost⟩ = x.give i (⟨5, 0, (i : Nat), 1, 0, 0, false, Msg.rec0, Msg.ent0, 0, 0, Msg.conf0⟩) lost := by
      unfold Quo.Fx.step
      rw [if_neg (by show ¬ (2 : Int) = 0; decide), if_neg (by show ¬ (2 : Int) = 1; decide), if_pos rfl]
      show x.give (Quo.whoOf who) (Quo.sealOf (Quo.whoOf who)) lost = _
      rw [HI.out.1]
      rfl
     have HGV := Hi hgive
     have hno : ¬ (er = 0 /\ lost = false) -> x.step ⟨2, who, sn, lost⟩ = ⟨x.p, fun j => if j = i then r9 else x.r j⟩ := fun hc => by
      rw [HGV.out]
      unfold Quo.Fx.give
      rw [HR9.out.2.2, if_neg hc, HR9.out.1]
     have HNO := Hi hno
     have HKZ := Hi (show ∀ k, Held12 F q (.slice (some ⟨lb, 0, none⟩) 3 lc) (.slice ma mn mc) k -> k < w6.heap.size /\ ¬ SP k from fun k hk => ⟨Nat.lt_of_lt_of_le (H.out.fre k hk.1).1.2 (Nat.le_trans HE5.out.size HT6.out.size), (H.out.fre k hk.1).2.1⟩)
     clear hgive hno
     by_cases he : er = 0
     case neg =>
      have he1 : (er == 0) = false := by simp [he]
      go_wp2_with fail
      refine bodyPost_ret (v := .tuple #[]) (by simp [results, Tryz.results22]) rfl ?_
      exact ⟨rfl, F, .slice ma mn mc, ps, SP, KP, SR6, by rw [HNO.out (fun h => he h.1)]; exact HF8.out, by rw [HNO.out (fun h => he h.1)]; exact HL.out, fun k hk => ⟨hk, (HE8.out.block k (HKZ.out k hk).1).trans (HH6.out k hk)⟩⟩
     subst he
     cases lost with
     | true =>
      go_wp2_with fail
      refine bodyPost_ret (v := .tuple #[]) (by simp [results, Tryz.results22]) rfl ?_
      exact ⟨rfl, F, .slice ma mn mc, ps, SP, KP, SR6, by rw [HNO.out (fun h => by cases h.2)]; exact HF8.out, by rw [HNO.out (fun h => by cases h.2)]; exact HL.out, fun k hk => ⟨hk, (HE8.out.block k (HKZ.out k hk).1).trans (HH6.out k hk)⟩⟩
     | false =>
      have hsrc : Wf64 mr.src := by
       obtain ⟨kk, _, hk⟩ := Quo.take_told HR9.out.2.2
       rw [HR9.out.2.1, HR9.out.1] at hk
       have h1 : mr.src = (i : Int) := by
        rw [hk]
        show r9.id = _
        rw [<- HR9.out.1, (Quo.take_ids _ _).1]
        exact (HINV.out.id i hi3).1
       rw [h1]
       have : i = 0 \/ i = 1 \/ i = 2 := by omega
       rcases this with e | e | e <;> subst e <;> rfl
      have HSRC := Hi hsrc
      clear hsrc
      go_upto_region 18 with fail
      refine zbf (by kernel_rfl) 5 Ext (fun iop v w => match iop with
       | 0 => v = .pointer (some ⟨q, 0, none⟩)
       | 1 => v = .pointer (some ⟨q, 0, none⟩)
       | 2 => v = .pointer (some ⟨q, 0, none⟩)
       | 3 => v = .pointer (some ⟨xp, 0, none⟩)
       | _ => v = .agg (zag mr (.slice none 0 0) (.slice none 0 0) (.slice none 0 0) (.slice none 0 0))
       ) (by kernel_rfl) (by kernel_rfl) (by decide) (fun _ _ _ h k => Ext.trans h k) (fun a => Ext.refl a) (Ext.drew _) ?_ ?_ ?_
      . intro iop v wa wb hF hL
        iterate 4 (rcases iop with _ | iop; exact hF)
        exact hF
      . refine Obls.cons ?_ (Obls.cons ?_ (Obls.cons ?_ (Obls.cons ?_ (Obls.cons ?_ (Obls.nil)))))
        . intro ev wy hp hl hk hd
          have e0 : ev _ = .pointer (some ⟨q, 0, none⟩) := hk 0 (by decide)
          exact Yield.mv rfl ⟨Ext.refl _, e0⟩
        . intro ev wy hp hl hk hd
          have e107 : ev _ = _ := hk 107 (by decide)
          exact Yield.oq (by simp [execOp, go_sem, e107])
        . intro ev wy hp hl hk hd
          have e108 : ev _ = _ := hk 108 (by decide)
          exact Yield.oq (by simp [execOp, go_sem, e108])
        . intro ev wy hp hl hk hd
          have e109 : ev _ = _ := hk 109 (by decide)
          exact Yield.load rfl e109 (by simp [go_sem, zaa (HF8.out.extend hl).at' 0]) ⟨Ext.refl _, rfl⟩
        . intro ev wy hp hl hk hd
          have e9 : ev _ = .pointer (some ⟨q7, 0, none⟩) := hk 9 (by decide)
          exact Yield.load rfl e9 (HAT8.out.ext hl).ldFree11 ⟨Ext.refl _, rfl⟩
      . intro vals wz hz hv
        have g107 : vals 0 = _ := hv 0 (by decide)
        have g108 : vals 1 = _ := hv 1 (by decide)
        have g109 : vals 2 = _ := hv 2 (by decide)
        have g110 : vals 3 = _ := hv 3 (by decide)
        have g111 : vals 4 = _ := hv 4 (by decide)
        clear hv
        simp only [List.take_succ_cons, List.take_zero, List.drop_succ_cons, List.drop_zero]
        simp only [zar, Act.put, List.setIfInBounds_toArray, List.set_cons_zero, List.set_cons_succ, g107, g108, g109, g110, g111]
        clear g107 g108 g109 g110 g111
        have HF9 := Hi (HF8.out.extend hz)
        have HZ9 := Hi hz
        clear hz
        go_wp2_with fail
        refine (zcm HF9.out.pr.pr _ mr (HMR.out _) HSRC.out).mono ?_
        unfold zb8
        rintro e w9 ⟨rfl, hl9⟩
        obtain ⟨SP9, KP9, hF9, ht9⟩ := HF9.out.stepP hl9
        have HF10 := Hi (And.intro hF9 ht9)
        clear hl9 hF9 ht9
        go_wp2_with fail
        refine bodyPost_ret (v := .tuple #[]) (by simp [results, Tryz.results22]) rfl ?_
        have hyes : x.step ⟨2, who, sn, false⟩ = ⟨x.p.hear mr, fun j => if j = i then r9 else x.r j⟩ := by
         rw [HGV.out]
         unfold Quo.Fx.give
         rw [HR9.out.2.2, if_pos ⟨rfl, rfl⟩, HR9.out.1, HR9.out.2.1]
        refine ⟨rfl, F, .slice ma mn mc, ps, SP9, KP9, SR6, by rw [hyes]; exact HF10.out.1, by rw [hyes]; exact HL.out.trans (Quo.hear_keeps x.p mr).2.1.symm, fun k hk => ⟨hk, ?_⟩⟩
        have hz := HKZ.out k hk
        have hE := HE8.out.trans HZ9.out
        exact (HF10.out.2.block k (Nat.lt_of_lt_of_le hz.1 hE.size) hz.2).trans ((hE.block k hz.1).trans (HH6.out k hk))
   have hlm6 := HATZ.out.ldFree11
   go_wp2_with (refine ldAny (by rfl) _ rfl rfl hlm6 ?_)
   have HE5 := HEZ
   have HF5 := HFZ
   have HS5 := HSZ
   have HMS := Hi (show ∀ w', TwS (SR i) wt w' -> IsMsg w' (.agg (zag Msg.none0 (.slice none 0 0) (.slice none 0 0) (.slice none 0 0) (.slice none 0 0))) Msg.none0 from fun w' _ => zes w' rfl rfl rfl rfl)
   clear hlm6
   obtain ⟨rp, rva, rvp, rev, res, hrep⟩ := (HF5.out.re i hi3).rep
   refine (zez hrep (fun k hk => ((HF5.out.re i hi3).low k hk).2) _ (Msg.none0) HMS.out).mono ?_
   unfold zcl
   rintro e w6 ⟨rfl, hl6⟩
   obtain ⟨r9, hr9⟩ : ∃ z, ((x.r i).take (Msg.none0)).1 = z := ⟨_, rfl⟩
   obtain ⟨mr, hmr⟩ : ∃ z, ((x.r i).take (Msg.none0)).2.1 = z := ⟨_, rfl⟩
   obtain ⟨er, her⟩ : ∃ z, ((x.r i).take (Msg.none0)).2.2 = z := ⟨_, rfl⟩
   have HR9 := Hi (And.intro hr9 (And.intro hmr her))
   have HMR := Hi (show ∀ w', IsMsg w' (.agg (zag mr (.slice none 0 0) (.slice none 0 0) (.slice none 0 0) (.slice none 0 0))) mr from fun w' => by rw [<- hmr]; exact Rep.take_plain _ _ w')
   rw [hr9] at hl6
   rw [hmr, her]
   obtain ⟨SR6, hF6, ht6⟩ := HF5.out.stepR hi3 hl6
   have HF6 := Hi hF6
   have HT6 := Hi ht6
   have HS66 := Hi ((ht6.block t3 (Array.getElem?_eq_some_iff.1 HS5.out).1 (fun e => by have h1 := HSRW.out t3 e; have h2 := HWA.out.2.1; omega)).trans HS5.out)
   have HH6 := Hi (show ∀ k, Held12 F q (.slice (some ⟨lb, 0, none⟩) 3 lc) (.slice ma mn mc) k -> w6.heap[k]? = w.heap[k]? from fun k hk => by
    have hf := H.out.fre k hk.1
    exact (ht6.block k (Nat.lt_of_lt_of_le hf.1.2 HE5.out.size) (hf.2.2.2 i hi3)).trans (HE5.out.block k hf.1.2))
   clear hrep hl6 hF6 ht6 hr9 hmr her
   go_upto_region 17 with (first
    | (refine zgk (by rfl) rfl ?_; intro W7 q7 hat7 hE7 hq7)
    | (refine putM (m2 := mr) (r2 := .slice none 0 0) (e2 := .slice none 0 0) (s2 := .slice none 0 0) (d2 := .slice none 0 0) (by rfl) _ _ rfl rfl rfl hat7.out zap zap zap zap ?_; intro W8 hat8 hB8))
   have hE8 : Ext w6 W8 := Ext.newQ11 hE7.out (Nat.le_of_eq hq7.out.symm) hB8.out
   have z3 : W8.cell? ⟨t3, 3, none⟩ = some (.bool lost) := zaa (zad HS66.out hE8) 3
   have HF8 := Hi (HF6.out.extend hE8)
   have HAT8 := Hi hat8.out
   have HE8 := Hi hE8
   clear hat7 hE7 hq7 hat8 hB8 hE8
   have hgive : x.step ⟨kd, who, sn, lost⟩ = x.give i (Msg.none0) lost := by
    unfold Quo.Fx.step
    rw [if_neg k0, if_neg k1, if_neg k2, if_neg k3]
    show x.give (Quo.whoOf who) Msg.none0 lost = _
    rw [HI.out.1]
   have HGV := Hi hgive
   have hno : ¬ (er = 0 /\ lost = false) -> x.step ⟨kd, who, sn, lost⟩ = ⟨x.p, fun j => if j = i then r9 else x.r j⟩ := fun hc => by
    rw [HGV.out]
    unfold Quo.Fx.give
    rw [HR9.out.2.2, if_neg hc, HR9.out.1]
   have HNO := Hi hno
   have HKZ := Hi (show ∀ k, Held12 F q (.slice (some ⟨lb, 0, none⟩) 3 lc) (.slice ma mn mc) k -> k < w6.heap.size /\ ¬ SP k from fun k hk => ⟨Nat.lt_of_lt_of_le (H.out.fre k hk.1).1.2 (Nat.le_trans HE5.out.size HT6.out.size), (H.out.fre k hk.1).2.1⟩)
   clear hgive hno
   by_cases he : er = 0
   case neg =>
    have he1 : (er == 0) = false := by simp [he]
    go_wp2_with fail
    refine bodyPost_ret (v := .tuple #[]) (by simp [results, Tryz.results22]) rfl ?_
    exact ⟨rfl, F, .slice ma mn mc, ps, SP, KP, SR6, by rw [HNO.out (fun h => he h.1)]; exact HF8.out, by rw [HNO.out (fun h => he h.1)]; exact HL.out, fun k hk => ⟨hk, (HE8.out.block k (HKZ.out k hk).1).trans (HH6.out k hk)⟩⟩
   subst he
   cases lost with
   | true =>
    go_wp2_with fail
    refine bodyPost_ret (v := .tuple #[]) (by simp [results, Tryz.results22]) rfl ?_
    exact ⟨rfl, F, .slice ma mn mc, ps, SP, KP, SR6, by rw [HNO.out (fun h => by cases h.2)]; exact HF8.out, by rw [HNO.out (fun h => by cases h.2)]; exact HL.out, fun k hk => ⟨hk, (HE8.out.block k (HKZ.out k hk).1).trans (HH6.out k hk)⟩⟩
   | false =>
    have hsrc : Wf64 mr.src := by
     obtain ⟨kk, _, hk⟩ := Quo.take_told HR9.out.2.2
     rw [HR9.out.2.1, HR9.out.1] at hk
     have h1 : mr.src = (i : Int) := by
      rw [hk]
      show r9.id = _
      rw [<- HR9.out.1, (Quo.take_ids _ _).1]
      exact (HINV.out.id i hi3).1
     rw [h1]
     have : i = 0 \/ i = 1 \/ i = 2 := by omega
     rcases this with e | e | e <;> subst e <;> rfl
    have HSRC := Hi hsrc
    clear hsrc
    go_upto_region 18 with fail
    refine zbf (by kernel_rfl) 5 Ext (fun iop v w => match iop with
     | 0 => v = .pointer (some ⟨q, 0, none⟩)
     | 1 => v = .pointer (some ⟨q, 0, none⟩)
     | 2 => v = .pointer (some ⟨q, 0, none⟩)
     | 3 => v = .pointer (some ⟨xp, 0, none⟩)
     | _ => v = .agg (zag mr (.slice none 0 0) (.slice none 0 0) (.slice none 0 0) (.slice none 0 0))
     ) (by kernel_rfl) (by kernel_rfl) (by decide) (fun _ _ _ h k => Ext.trans h k) (fun a => Ext.refl a) (Ext.drew _) ?_ ?_ ?_
    . intro iop v wa wb hF hL
      iterate 4 (rcases iop with _ | iop; exact hF)
      exact hF
    . refine Obls.cons ?_ (Obls.cons ?_ (Obls.cons ?_ (Obls.cons ?_ (Obls.cons ?_ (Obls.nil)))))
      . intro ev wy hp hl hk hd
        have e0 : ev _ = .pointer (some ⟨q, 0, none⟩) := hk 0 (by decide)
        exact Yield.mv rfl ⟨Ext.refl _, e0⟩
      . intro ev wy hp hl hk hd
        have e107 : ev _ = _ := hk 107 (by decide)
        exact Yield.oq (by simp [execOp, go_sem, e107])
      . intro ev wy hp hl hk hd
        have e108 : ev _ = _ := hk 108 (by decide)
        exact Yield.oq (by simp [execOp, go_sem, e108])
      . intro ev wy hp hl hk hd
        have e109 : ev _ = _ := hk 109 (by decide)
        exact Yield.load rfl e109 (by simp [go_sem, zaa (HF8.out.extend hl).at' 0]) ⟨Ext.refl _, rfl⟩
      . intro ev wy hp hl hk hd
        have e9 : ev _ = .pointer (some ⟨q7, 0, none⟩) := hk 9 (by decide)
        exact Yield.load rfl e9 (HAT8.out.ext hl).ldFree11 ⟨Ext.refl _, rfl⟩
    . intro vals wz hz hv
      have g107 : vals 0 = _ := hv 0 (by decide)
      have g108 : vals 1 = _ := hv 1 (by decide)
      have g109 : vals 2 = _ := hv 2 (by decide)
      have g110 : vals 3 = _ := hv 3 (by decide)
      have g111 : vals 4 = _ := hv 4 (by decide)
      clear hv
      simp only [List.take_succ_cons, List.take_zero, List.drop_succ_cons, List.drop_zero]
      simp only [zar, Act.put, List.setIfInBounds_toArray, List.set_cons_zero, List.set_cons_succ, g107, g108, g109, g110, g111]
      clear g107 g108 g109 g110 g111
      have HF9 := Hi (HF8.out.extend hz)
      have HZ9 := Hi hz
      clear hz
      go_wp2_with fail
      refine (zcm HF9.out.pr.pr _ mr (HMR.out _) HSRC.out).mono ?_
      unfold zb8
      rintro e w9 ⟨rfl, hl9⟩
      obtain ⟨SP9, KP9, hF9, ht9⟩ := HF9.out.stepP hl9
      have HF10 := Hi (And.intro hF9 ht9)
      clear hl9 hF9 ht9
      go_wp2_with fail
      refine bodyPost_ret (v := .tuple #[]) (by simp [results, Tryz.results22]) rfl ?_
      have hyes : x.step ⟨kd, who, sn, false⟩ = ⟨x.p.hear mr, fun j => if j = i then r9 else x.r j⟩ := by
       rw [HGV.out]
       unfold Quo.Fx.give
       rw [HR9.out.2.2, if_pos ⟨rfl, rfl⟩, HR9.out.1, HR9.out.2.1]
      refine ⟨rfl, F, .slice ma mn mc, ps, SP9, KP9, SR6, by rw [hyes]; exact HF10.out.1, by rw [hyes]; exact HL.out.trans (Quo.hear_keeps x.p mr).2.1.symm, fun k hk => ⟨hk, ?_⟩⟩
      have hz := HKZ.out k hk
      have hE := HE8.out.trans HZ9.out
      exact (HF10.out.2.block k (Nat.lt_of_lt_of_le hz.1 hE.size) hz.2).trans ((hE.block k hz.1).trans (HH6.out k hk))
end Go.Proofs.YtnoeconcpgdjlaaGreat
namespace Go.Proofs.YtnoeconcpgdjlaaGreat
set_option linter.unusedSimpArgs false
set_option linter.unusedVariables false
set_option maxRecDepth 100000
open Go.ChangeShapes Go.WideShapes Go.ChangeAt Go.RowKit
def Quo.Step.Wide (s : Quo.Step) : Prop := Wf64 s.kind /\ Wf64 s.who /\ Wf64 s.n
def zcs (l : List Quo.Step) : List Value := l.flatMap fun s => [.int .i64 s.kind, .int .i64 s.who, .int .i64 s.n, .bool s.lost]
theorem zbr (l : List Quo.Step) : (zcs l).length = l.length * 4 := by
 induction l with
 | nil => rfl
 | cons p l ih =>
  show (zcs l).length + 1 + 1 + 1 + 1 = _
  rw [ih, List.length_cons]
  omega
theorem zek : ∀ (l : List Quo.Step) (i j : Nat) (hi : i < l.length), j < 4 -> (zcs l)[i * 4 + j]? = [Value.int .i64 l[i].kind, .int .i64 l[i].who, .int .i64 l[i].n, .bool l[i].lost][j]? := by
 intro l
 induction l with
 | nil => intro i j hi; exact absurd hi (by simp)
 | cons p l ih =>
  intro i j hi hj
  cases i with
  | zero =>
   match j, hj with
   | 0, _ => rfl
   | 1, _ => rfl
   | 2, _ => rfl
   | 3, _ => rfl
  | succ i =>
   have h1 := ih i j (by simpa using hi) hj
   have e1 : (i + 1) * 4 + j = (i * 4 + j) + 1 + 1 + 1 + 1 := by omega
   rw [e1]
   exact h1
def Steps12 (w : World) (v : Value) (l : List Quo.Step) : Prop := SlN 4 w v l.length (zcs l)
theorem Steps12.below {w w' : World} {v : Value} {l : List Quo.Step} (h : Steps12 w v l) (hb : Below w.heap.size w w') : Steps12 w' v l := SlN.below h hb
theorem Steps12.open {w : World} {a : Option Addr} {n c : Nat} {l : List Quo.Step} (h : Steps12 w (.slice a n c) l) : n = l.length /\ n <= c /\ c <= 9223372036854775807 := by
 obtain ⟨a', cap, e, h1, h2, _⟩ := h
 injection e with e1 e2 e3
 subst e2 e3
 exact ⟨rfl, h1, h2⟩
theorem Steps12.at {w : World} {a : Option Addr} {n c : Nat} {l : List Quo.Step} (h : Steps12 w (.slice a n c) l) (i : Nat) (hi : i < l.length) : ∃ b off, a = some ⟨b, off, none⟩ /\ w.cell? ⟨b, off + i * 4, none⟩ = some (.int .i64 l[i].kind) /\ w.cell? ⟨b, off + i * 4 + 1, none⟩ = some (.int .i64 l[i].who) /\ w.cell? ⟨b, off + i * 4 + 2, none⟩ = some (.int .i64 l[i].n) /\ w.cell? ⟨b, off + i * 4 + 3, none⟩ = some (.bool l[i].lost) := by
 obtain ⟨a', cap, e, _, _, _, _, hc⟩ := h
 injection e with e1 _ _
 subst e1
 obtain ⟨b, off, e, _⟩ := hc (i * 4) (by rw [zbr]; omega)
 have key : ∀ j (hj : j < 4), w.cell? ⟨b, off + i * 4 + j, none⟩ = [Value.int .i64 l[i].kind, .int .i64 l[i].who, .int .i64 l[i].n, .bool l[i].lost][j]? := fun j hj => by
  have hlt : i * 4 + j < (zcs l).length := by rw [zbr]; omega
  obtain ⟨b', off', e', hcell⟩ := hc (i * 4 + j) hlt
  rw [e] at e'
  injection e' with e'
  injection e' with e1 e2
  subst e1 e2
  rw [<- zek l i j hi hj, List.getElem?_eq_getElem hlt, <- hcell]
  congr 2
  omega
 exact ⟨b, off, e, key 0 (by omega), key 1 (by omega), key 2 (by omega), key 3 (by omega)⟩
section
variable {H : Type} {enc : TypeId × Value -> H} {w : World} {base : Nat} {spare : Nat -> Bool} {held : Bool}
theorem zh0 {fuel : Nat} {cs : List Value} {x : DataW H × List MemPlace} (h : DataW.trod enc Tryz.prog w base spare held fuel 73 cs = some x) :
 ∃ s : Quo.Step, cs = [.int .i64 s.kind, .int .i64 s.who, .int .i64 s.n, .bool s.lost] /\ s.Wide := by
 obtain ⟨xs, f, _, rfl, hl, hlen, hf⟩ := DataW.trod_struct Tryz.underlying73 h
 have hc : Tryz.prog.cellsOf 73 = 4 := by kernel_rfl
 have hi : Tryz.prog.cellsOf 3 = 1 := by kernel_rfl
 have he : Tryz.prog.cellsOf 4 = 1 := by kernel_rfl
 rw [hc] at hl
 obtain ⟨c0, c1, c2, c3, rfl⟩ : ∃ a b c d, cs = [a, b, c, d] := by
  match cs, hl with
  | [a, b, c, d], _ => exact ⟨a, b, c, d, rfl⟩
 obtain ⟨y0, y1, y2, y3, rfl⟩ : ∃ a b c d, xs = [a, b, c, d] := by
  match xs, hlen with
  | [a, b, c, d], _ => exact ⟨a, b, c, d, rfl⟩
 have f0 : DataW.trod enc Tryz.prog w base spare held f 3 (List.take (Tryz.prog.cellsOf 3) (List.drop 0 [c0, c1, c2, c3])) = some y0 := hf 0 _ rfl
 have f1 : DataW.trod enc Tryz.prog w base spare held f 3 (List.take (Tryz.prog.cellsOf 3) (List.drop 1 [c0, c1, c2, c3])) = some y1 := hf 1 _ rfl
 have f2 : DataW.trod enc Tryz.prog w base spare held f 3 (List.take (Tryz.prog.cellsOf 3) (List.drop 2 [c0, c1, c2, c3])) = some y2 := hf 2 _ rfl
 have f3 : DataW.trod enc Tryz.prog w base spare held f 4 (List.take (Tryz.prog.cellsOf 4) (List.drop 3 [c0, c1, c2, c3])) = some y3 := hf 3 _ rfl
 rw [hi] at f0 f1 f2
 rw [he] at f3
 simp only [List.drop_zero, List.drop_succ_cons, List.take_succ_cons, List.take_zero] at f0 f1 f2 f3
 obtain ⟨n0, e0, _, hw0⟩ := DataW.trod_int Tryz.underlying3 f0
 obtain ⟨n1, e1, _, hw1⟩ := DataW.trod_int Tryz.underlying3 f1
 obtain ⟨n2, e2, _, hw2⟩ := DataW.trod_int Tryz.underlying3 f2
 obtain ⟨n3, e3, _⟩ := DataW.trod_bool Tryz.underlying4 f3
 injection e0 with e0 _
 injection e1 with e1 _
 injection e2 with e2 _
 injection e3 with e3 _
 subst e0 e1 e2 e3
 exact ⟨⟨n0, n1, n2, n3⟩, rfl, hw0, hw1, hw2⟩
theorem zdz {fuel : Nat} {cs : List Value} {x : DataW H × List MemPlace} (h : DataW.trod enc Tryz.prog w base spare held fuel 64 cs = some x) :
 ∃ v l, cs = [v] /\ Steps12 w v l /\ ∀ o ∈ l, o.Wide := by
 have hc : Tryz.prog.cellsOf 73 = 4 := by kernel_rfl
 rcases DataW.trod_slice Tryz.underlying64 h with ⟨rfl, _⟩ | ⟨a, len, cap, elems, rest, n, _, rfl, rfl, _, hl, hm, hlen, hel, _, _⟩
 . exact ⟨_, [], rfl, SlN.ofOwn (World.ownsRow_nil w w.heap.size 73 4), fun o ho => absurd ho (by simp)⟩
 . rw [hc] at hel
   have each : ∀ i (hi : i < elems.length), ∃ o : Quo.Step, o.Wide /\ ∀ j, j < 4 -> w.cell? ((a.add (i * 4)).add j) = [Value.int .i64 o.kind, .int .i64 o.who, .int .i64 o.n, .bool o.lost][j]? := by
    intro i hi
    have h1 := hel i (by omega)
    rw [List.getElem?_eq_getElem hi, Option.bind_eq_some_iff] at h1
    obtain ⟨ds, hds, hy⟩ := h1
    obtain ⟨s, rfl, hf⟩ := zh0 hy
    exact ⟨s, hf, (World.cells?_some hds).2.2⟩
   obtain ⟨f, hf⟩ : ∃ f : Nat -> Quo.Step, ∀ i (hi : i < elems.length), (f i).Wide /\ ∀ j, j < 4 -> w.cell? ((a.add (i * 4)).add j) = [Value.int .i64 (f i).kind, .int .i64 (f i).who, .int .i64 (f i).n, .bool (f i).lost][j]? := by
    have : ∀ i, ∃ o : Quo.Step, ∀ (hi : i < elems.length), o.Wide /\ ∀ j, j < 4 -> w.cell? ((a.add (i * 4)).add j) = [Value.int .i64 o.kind, .int .i64 o.who, .int .i64 o.n, .bool o.lost][j]? := by
     intro i
     by_cases hi : i < elems.length
     . obtain ⟨o, h1⟩ := each i hi
       exact ⟨o, fun _ => h1⟩
     . exact ⟨⟨0, 0, 0, false⟩, fun h => absurd h hi⟩
    exact ⟨fun i => (this i).choose, fun i => (this i).choose_spec⟩
   have hz : ((List.range elems.length).map f).length = elems.length := by simp
   have hat : ∀ i (hi : i < ((List.range elems.length).map f).length), ((List.range elems.length).map f)[i] = f i := fun i hi => by simp
   refine ⟨_, (List.range elems.length).map f, rfl, ?_, fun o ho => ?_⟩
   . unfold Steps12
     rw [hz]
     refine ⟨some a, cap, by simp [hlen], by omega, hm, fun e => by simp at e, by rw [zbr, hz], fun j hj => ?_⟩
     have hj2 : j < elems.length * 4 := by rw [zbr, hz] at hj; exact hj
     have hi : j / 4 < elems.length := by omega
     have hs : a.spot = none := by
      obtain ⟨_, hk0⟩ := hf 0 (by omega)
      have h0 := hk0 0 (by omega)
      have e0 : (a.add (0 * 4)).add 0 = a := by simp [Addr.add]
      rw [e0] at h0
      unfold World.cell? at h0
      cases hsp : a.spot with
      | none => rfl
      | some s =>
       exfalso
       rw [hsp] at h0
       simp only [List.getElem?_cons_zero] at h0
       split at h0 <;> simp at h0
     obtain ⟨b, off, spot⟩ := a
     simp only at hs
     subst hs
     obtain ⟨_, hk⟩ := hf (j / 4) hi
     have h1 := hk (j % 4) (Nat.mod_lt _ (by omega))
     have h2 := zek ((List.range elems.length).map f) (j / 4) (j % 4) (by rw [hz]; exact hi) (Nat.mod_lt _ (by omega))
     rw [hat] at h2
     have hsum : j / 4 * 4 + j % 4 = j := by omega
     rw [hsum] at h2
     simp only [Addr.add_lit] at h1
     rw [show off + j / 4 * 4 + j % 4 = off + j by omega, <- h2, List.getElem?_eq_getElem hj] at h1
     exact ⟨b, off, rfl, h1⟩
   . obtain ⟨i, hi, rfl⟩ := List.mem_map.1 ho
     exact (hf i (List.mem_range.1 hi)).1
end
section
variable {W w w' : World} {q n xp : Nat} {F : Nat -> Prop} {X : Nat -> Nat} {lv mv : Value} {ps : List (Value × Ent.E)} {x : Quo.Fx} {SP KP : Nat -> Prop} {SR : Nat -> Nat -> Prop}
theorem Fx12.addR {w2 w3 w9 w10 : World} {v9 : Value} {xr : Nat} (h : Fx12 W q F n xp X lv mv ps x SP KP SR w) (hE : Ext w w2) (hR : IsRep w2 w.heap.size (fun k => w.heap.size <= k) xr (x.r n)) (hE3 : Ext w2 w3) (hg : w3.grownBy w9 lv.ownBlock)
 (hown : w9.ownsRow W.heap.size 69 1 v9 (n + 1) (((List.range n).map fun i => Value.pointer (some ⟨X i, 0, none⟩)) ++ [.pointer (some ⟨xr, 0, none⟩)])) (hat : v9.ownBlock = lv.ownBlock \/ v9.ownBlock = some w3.heap.size) (hb : But q w9 w10)
 (hq : w10.heap[q]? = some (.cells #[.pointer (some ⟨xp, 0, none⟩), v9, mv] 68 (0, 0))) :
 Fx12 W q (fun k => F k \/ (w2.heap.size <= k /\ k < w10.heap.size)) (n + 1) xp (fun i => if i = n then xr else X i) v9 mv ps x SP KP (fun i k => if i = n then (w.heap.size <= k /\ k < w2.heap.size) else SR i k) w10 := by
 have h3 := h.extend (hE.trans hE3)
 have hs1 := hE.size
 have hs2 := hE3.size
 have hs3 := hg.size
 have hs4 := hb.size
 have hqw : q < w.heap.size := (h.fre q h.fq).1.2
 have hlw : ∀ k, lv.ownBlock = some k -> k < w.heap.size := fun k hk => (h.lrow.lt k hk).2
 have hk : ∀ k, k < w3.heap.size -> k ≠ q -> lv.ownBlock ≠ some k -> w10.heap[k]? = w3.heap[k]? := fun k hk h1 h2 => (hb.block k (Nat.lt_of_lt_of_le hk hg.size) h1).trans (hg.block k hk (fun e => h2 e.symm))
 have hE10 : Ext W w10 := Ext.newQ11 (Below.grown h3.ext hg h3.ext.size (fun j hj => (h3.lrow.lt j hj).1)) (h.fre q h.fq).1.1 hb
 have hlq : ∀ k, lv.ownBlock = some k -> k ≠ q := fun k e => by
  obtain ⟨cur, hc⟩ := ownAt h.lrow e
  exact h.atNot hc (by decide)
 have hmq : ∀ k, mv.ownBlock = some k -> k ≠ q /\ lv.ownBlock ≠ some k := fun k e => by
  obtain ⟨cur, hc⟩ := ownAt h.made e
  refine ⟨h.atNot hc (by decide), fun e2 => ?_⟩
  obtain ⟨cur2, h2⟩ := ownAt h.lrow e2
  rw [hc] at h2
  injection h2 with h2
  injection h2 with _ e2 _
  exact absurd e2 (by decide)
 refine ⟨⟨h3.pr.pr.keep fun k hk1 hs => hk k hk1 (fun e => by subst e; exact hs.elim (h.fre k h.fq).2.1 (h.fre k h.fq).2.2.1) (fun e => hs.elim (h.fre k (h.fl k e)).2.1 (h.fre k (h.fl k e)).2.2.1), hE10⟩, fun i hi => ?_, fun i j k hi hj hne hs => ?_, fun i k hi hs => ?_, hq, ?_, ?_, fun c hc => ?_, fun k hk1 => ?_, .inl h.fq, fun k e => ?_, fun k e => .inl (h.fm k e), fun c hc k e i hi => ?_⟩
 . by_cases e : i = n
   . subst e
     simp only [if_true]
     obtain ⟨p, va, vp, ev, es, hr⟩ := hR
     have hr2 := (hr.wider (S' := fun k => w.heap.size <= k /\ k < w2.heap.size) fun k hk hs => ⟨hs, hk⟩).ext hE3
     exact ⟨⟨p, va, vp, ev, es, (hr2.keep fun k hk1 hs => hk k hk1 (by omega) (fun e => by have := hlw k e; omega)).lower h.ext.size⟩, hE10, fun k hk1 => ⟨Nat.le_trans h.ext.size hk1.1, by omega⟩⟩
   . simp only [e, if_false]
     have hi' : i < n := by omega
     have hr := h3.re i hi'
     obtain ⟨p, va, vp, ev, es, hR⟩ := hr.rep
     exact ⟨⟨p, va, vp, ev, es, hR.keep fun k hk1 hs => hk k hk1 (fun e => by subst e; exact (h.fre k h.fq).2.2.2 i hi' hs) (fun e => (h.fre k (h.fl k e)).2.2.2 i hi' hs)⟩, hE10, fun k hk1 => ⟨(hr.low k hk1).1, by have := (hr.low k hk1).2; omega⟩⟩
 . by_cases e : i = n
   . subst e
     have e' : ¬ j = i := fun e' => hne e'.symm
     simp only [if_true, e', if_false] at hs ⊢
     exact fun hs' => by have := ((h.re j (by omega)).low k hs').2; omega
   . by_cases e' : j = n
     . subst e'
       simp only [if_true, e, if_false] at hs ⊢
       exact fun hs' => by have := ((h.re i (by omega)).low k hs).2; omega
     . simp only [e, e', if_false] at hs ⊢
       exact h.apart i j k (by omega) (by omega) hne hs
 . by_cases e : i = n
   . subst e
     simp only [if_true] at hs
     exact ⟨fun hp => by have := (h.pr.pr.lt hp).2; omega, fun hp => by have := (h.pr.pr.ltK hp).2; omega⟩
   . simp only [e, if_false] at hs
     exact h.dis i k (by omega) hs
 . rw [List.range_succ, List.map_append]
   have he : ((List.range n).map fun i => Value.pointer (some ⟨if i = n then xr else X i, 0, none⟩)) = (List.range n).map fun i => Value.pointer (some ⟨X i, 0, none⟩) := List.map_congr_left fun i hi => by
    have := List.mem_range.1 hi
    rw [if_neg (by omega)]
   rw [he]
   simp only [List.map_cons, List.map_nil, if_true]
   refine za1 hown fun k e => hb.block k (hown.lt k e).2 fun e2 => ?_
   subst e2
   rcases hat with h1 | h1
   . rw [e] at h1
     exact hlq k h1.symm rfl
   . rw [e] at h1
     injection h1 with h1
     omega
 . exact za1 h3.made fun k e => hk k (h3.made.lt k e).2 (hmq k e).1 (hmq k e).2
 . exact (h3.cuts c hc).blocks fun g hg => hk g ((h3.cuts c hc).lt g hg).2 (h3.cutNot hc hg).1 (h3.cutNot hc hg).2.1
 . rcases hk1 with hk1 | hk1
   . have hf := h.fre k hk1
     refine ⟨⟨hf.1.1, by omega⟩, hf.2.1, hf.2.2.1, fun i hi => ?_⟩
     by_cases e : i = n
     . subst e
       simp only [if_true]
       omega
     . simp only [e, if_false]
       exact hf.2.2.2 i (by omega)
   . have hn := h.new (k := k) (by omega)
     refine ⟨⟨hn.1, hk1.2⟩, hn.2.1, hn.2.2.1, fun i hi => ?_⟩
     by_cases e : i = n
     . subst e
       simp only [if_true]
       omega
     . simp only [e, if_false]
       exact hn.2.2.2 i (by omega)
 . rcases hat with h1 | h1
   . exact .inl (h.fl k (by rw [<- h1]; exact e))
   . have hlt := (hown.lt k e).2
     rw [e] at h1
     injection h1 with h1
     exact .inr ⟨by omega, by omega⟩
 . by_cases e' : i = n
   . subst e'
     simp only [if_true]
     have := ((h.cuts c hc).lt k e).2
     omega
   . simp only [e', if_false]
     exact h.fc c hc k e i (by omega)
theorem Fx12.grown {o : Option Nat} (h : Fx12 W q F n xp X lv mv ps x SP KP SR w) (hg : w.grownBy w' o) (ho : ∀ k, o = some k -> Held12 F q lv mv k /\ ∃ cur t fr, w.heap[k]? = some (.cells cur t fr) /\ t ≠ 3) : Fx12 W q (Later F w w') n xp X lv mv ps x SP KP SR w' := by
 have hk : ∀ k, k < w.heap.size -> ¬ (Held12 F q lv mv k) -> w'.heap[k]? = w.heap[k]? := fun k hk hn => hg.block k hk fun e => hn (ho k e.symm).1
 have hE' : Ext W w' := Below.grown h.ext hg h.ext.size fun j hj => (h.fre j (ho j hj).1.1).1.1
 have hsz := hg.size
 refine ⟨⟨h.pr.pr.keep fun k hk1 hs => hk k hk1 fun hh => hs.elim (h.fre k hh.1).2.1 (h.fre k hh.1).2.2.1, hE'⟩, fun i hi => ?_, h.apart, h.dis, (hk q (h.fre q h.fq).1.2 fun hh => hh.2.1 rfl).trans h.at', za1 h.lrow fun k e => hk k (h.lrow.lt k e).2 fun hh => hh.2.2.1 e, za1 h.made fun k e => hk k (h.made.lt k e).2 fun hh => hh.2.2.2 e, fun c hc => (h.cuts c hc).blocks fun g hgk => hg.block g ((h.cuts c hc).lt g hgk).2 fun e => ?_, fun k hk1 => ?_, .inl h.fq, fun k e => .inl (h.fl k e), fun k e => .inl (h.fm k e), h.fc⟩
 . have hr := h.re i hi
   obtain ⟨p, va, vp, ev, es, hR⟩ := hr.rep
   exact ⟨⟨p, va, vp, ev, es, hR.keep fun k hk1 hs => hk k hk1 fun hh => (h.fre k hh.1).2.2.2 i hi hs⟩, hE', fun k hk1 => ⟨(hr.low k hk1).1, Nat.lt_of_lt_of_le (hr.low k hk1).2 hsz⟩⟩
 . obtain ⟨cur, hc1⟩ := h.cutAt hc hgk
   obtain ⟨_, cur2, t, fr, hc2, hne⟩ := ho g e.symm
   rw [hc1] at hc2
   injection hc2 with hc2
   injection hc2 with _ e2 _
   exact hne e2.symm
 . rcases hk1 with hk1 | hk1
   . have hf := h.fre k hk1
     exact ⟨⟨hf.1.1, Nat.lt_of_lt_of_le hf.1.2 hsz⟩, hf.2⟩
   . have := h.new hk1.1
     exact ⟨⟨this.1, hk1.2⟩, this.2⟩
theorem Held12.later {k : Nat} (h : Held12 F q lv mv k) (w w' : World) : Held12 (Later F w w') q lv mv k := ⟨.inl h.1, h.2⟩
theorem Fx12.heldNew {k : Nat} (h : Fx12 W q F n xp X lv mv ps x SP KP SR w) (h1 : w.heap.size <= k) (h2 : k < w'.heap.size) : Held12 (Later F w w') q lv mv k :=
 ⟨.inr ⟨h1, h2⟩, fun e => by have := (h.fre q h.fq).1.2; omega, fun e => by have := (h.lrow.lt k e).2; omega, fun e => by have := (h.made.lt k e).2; omega⟩
end
structure Tails12 (W : World) (H : Nat -> Prop) (tv : Value) (ts : List (Value × List Ent.E)) (w : World) : Prop where
 row : w.ownsRow W.heap.size 61 1 tv ts.length (ts.map (·.1))
 rowH : ∀ k, tv.ownBlock = some k -> H k
 each : ∀ t ∈ ts, ∃ qs : List (Value × Ent.E), w.ownsRow W.heap.size 84 6 t.1 qs.length (zah qs) /\ (∀ k, t.1.ownBlock = some k -> H k) /\ (∀ c ∈ qs, RowN W.heap.size w c.1 c.2.cut /\ ∀ k, c.1.ownBlock = some k -> H k) /\ qs.map (·.2) = t.2
theorem Tails12.move {W w w' : World} {H H' : Nat -> Prop} {tv : Value} {ts : List (Value × List Ent.E)} (h : Tails12 W H tv ts w) (hb : ∀ k, H k -> H' k /\ w'.heap[k]? = w.heap[k]?) : Tails12 W H' tv ts w' := by
 refine ⟨za1 h.row fun k hk => (hb k (h.rowH k hk)).2, fun k hk => (hb k (h.rowH k hk)).1, fun t ht => ?_⟩
 obtain ⟨qs, h1, h2, h3, h4⟩ := h.each t ht
 exact ⟨qs, za1 h1 fun k hk => (hb k (h2 k hk)).2, fun k hk => (hb k (h2 k hk)).1, fun c hc => ⟨(h3 c hc).1.blocks fun k hk => (hb k ((h3 c hc).2 k hk)).2, fun k hk => (hb k ((h3 c hc).2 k hk)).1⟩, h4⟩
theorem Tails12.nil (W w : World) (H : Nat -> Prop) : Tails12 W H (.slice none 0 0) [] w := ⟨World.ownsRow_nil _ _ _ _, (fun k hk => by cases hk), fun t ht => by cases ht⟩
theorem Tails12.more {W w w' : World} {H H' : Nat -> Prop} {tv v9 u : Value} {ts : List (Value × List Ent.E)} {qs : List (Value × Ent.E)} (h : Tails12 W H tv ts w) (hg : w.grownBy w' tv.ownBlock) (hown : w'.ownsRow W.heap.size 61 1 v9 (ts.length + 1) (ts.map (·.1) ++ [u])) (hv9 : ∀ k, v9.ownBlock = some k -> H' k)
 (hu : w.ownsRow W.heap.size 84 6 u qs.length (zah qs)) (hqs : ∀ c ∈ qs, RowN W.heap.size w c.1 c.2.cut) (huH : ∀ k, u.ownBlock = some k -> H' k) (hcH : ∀ c ∈ qs, ∀ k, c.1.ownBlock = some k -> H' k) (hH : ∀ k, H k -> H' k) : Tails12 W H' v9 (ts ++ [(u, qs.map (·.2))]) w' := by
 have hne : ∀ {k : Nat} {cur : Array Value} {t : TypeId} {fr : Nat × Nat}, w.heap[k]? = some (.cells cur t fr) -> t ≠ 61 -> w'.heap[k]? = w.heap[k]? := fun {k cur t fr} hc ht => hg.block k (Array.getElem?_eq_some_iff.1 hc).1 fun e => by
  obtain ⟨cur2, h2⟩ := ownAt h.row e.symm
  rw [hc] at h2
  injection h2 with h2
  injection h2 with _ e2 _
  exact ht e2
 have hkE : ∀ {v : Value} {l : List (Value × Ent.E)}, w.ownsRow W.heap.size 84 6 v l.length (zah l) -> w'.ownsRow W.heap.size 84 6 v l.length (zah l) := fun {v l} ho => za1 ho fun k hk => by
  obtain ⟨cur, hc⟩ := ownAt ho hk
  exact hne hc (by decide)
 have hkN : ∀ {v : Value} {l : List Int}, RowN W.heap.size w v l -> RowN W.heap.size w' v l := fun {v l} ho => ho.blocks fun k hk => by
  obtain ⟨b, m, _, h2⟩ := id ho
  obtain ⟨cur, hc⟩ := ownAt h2 hk
  exact hne hc (by decide)
 refine ⟨by rw [List.length_append, List.map_append]; exact hown, hv9, fun t ht => ?_⟩
 rcases List.mem_append.1 ht with ht | ht
 . obtain ⟨qs', h1, h2, h3, h4⟩ := h.each t ht
   exact ⟨qs', hkE h1, fun k hk => hH k (h2 k hk), fun c hc => ⟨hkN (h3 c hc).1, fun k hk => hH k ((h3 c hc).2 k hk)⟩, h4⟩
 . obtain rfl := List.mem_singleton.1 ht
   exact ⟨qs, hkE hu, huH, fun c hc => ⟨hkN (hqs c hc), hcH c hc⟩, rfl⟩
end Go.Proofs.YtnoeconcpgdjlaaGreat
