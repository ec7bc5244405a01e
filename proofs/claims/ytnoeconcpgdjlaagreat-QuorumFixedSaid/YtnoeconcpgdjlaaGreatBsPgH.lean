import Derived.Maps.AppendAt
import Derived.Test.YtnoeconcpgdjlaaGreatBsPgG
namespace Go.Proofs.YtnoeconcpgdjlaaGreat
set_option linter.unusedSimpArgs false
set_option linter.unusedVariables false
set_option maxRecDepth 100000
open Go.RowKit
structure Appended (w : World) (base p : Nat) (va vp : Value) (S : Page.St) (b : List UInt8) (w' : World) (va' vp' : Value) : Prop where
 sto : IsSto w' base p va' vp' (S.append b)
 os : w'.os = w.os
 tape : w'.tape = w.tape
 output : w'.output = w.output
 size : w.heap.size <= w'.heap.size
 block : ∀ k, k < w.heap.size -> k ≠ p -> some k ≠ va.ownBlock -> some k ≠ vp.ownBlock -> w'.heap[k]? = w.heap[k]?
 newA : va' = va \/ va'.ownBlock = va.ownBlock \/ ∀ k, va'.ownBlock = some k -> w.heap.size <= k
 newP : vp' = vp \/ vp'.ownBlock = vp.ownBlock \/ ∀ k, vp'.ownBlock = some k -> w.heap.size <= k
def zd8 (base p : Nat) (va vp : Value) (S : Page.St) (b : List UInt8) (w : World) (e : Ending) (w' : World) : Prop :=
 e = .returned (.tuple #[.int .i64 ((S.appendAt b : Nat) : Int), .int .i64 (S.appendErr b)]) /\ ∃ va' vp', Appended w base p va vp S b w' va' vp'
theorem zqp (q : Nat) (v : Value) (l : List UInt8) (w : World) (ht : TB w q) (hv : Bytes w v l) (hl : l.length <= 100000) :
 Calls Tryz.prog 149 #[.pointer (some ⟨q, 0, none⟩), v] w fun e w' => ∃ a n c, e = .returned (.slice a n c) /\ w'.ownsRow w.heap.size 5 1 (.slice a n c) (l ++ Crc.low (Crc.sum l)).length (u8s (l ++ Crc.low (Crc.sum l))) /\ But q w w' := by
 obtain ⟨d, c, hd, ht⟩ := ht
 refine (zk3 q d c v l w ht hd hv hl).mono ?_
 rintro e w' ⟨u, d', rfl, ho, hb, _⟩
 obtain ⟨a, n, c, rfl⟩ := zao ho
 exact ⟨a, n, c, rfl, ho, hb⟩
theorem TB.grown {w w' : World} {q base n size : Nat} {e : TypeId} {v : Value} {xs : List Value} (h : TB w q) (ho : w.ownsRow base e size v n xs) (hg : w.grownBy w' v.ownBlock) (he : 234 ≠ e) : TB w' q := by
 obtain ⟨d, c, hd, h⟩ := h
 refine ⟨d, c, hd, ?_⟩
 have hlt := h.lt
 unfold Tab at h ⊢
 rw [hg.block q hlt (zaj ho h he)]
 exact h
theorem zjm {P : Program} {w : World} {ops : Array Oper} {rest : List Oper} {o : Oper} {a : Act} {Q : Exit -> Act -> World -> Prop} (hgd : o.guard = none) (s x : Operand) {t e : TypeId} {z : Value} {bytes : Nat} (E : ElemOf P t e z bytes)
 (ho : o.op = .call { callee := .builtin .append, args := #[s, x], argTypes := #[t, t] }) {base : Nat} {v u : Value} {n : Nat} {xs ys : List Value} (hs : a.eval s = v) (hx : a.eval x = u)
 (hown : w.ownsRow base e 1 v n xs) (hu : Sl w u ys) (hne : 0 < ys.length) (h1 : ∀ y ∈ ys, y.oneCell' = true) (hsz : n + ys.length <= maxLen) (hby : (n + ys.length) * bytes <= 140737488355328) (hb : base <= w.heap.size)
 (h : ∀ v' w', w'.ownsRow base e 1 v' (n + ys.length) (xs ++ ys) -> w.grownBy w' v.ownBlock -> (v'.ownBlock = v.ownBlock \/ v'.ownBlock = some w.heap.size) -> wpList P ops Q rest (a.put o.dst v') w') : wpList P ops Q (o :: rest) a w := by
 obtain ⟨i, hi, hz, h2, h3⟩ := info_parts E.info
 obtain ⟨aa, cap, rfl, hc, hm, hn, hcell⟩ := hu
 obtain ⟨b, off, rfl, _⟩ := hcell 0 hne
 exact wpList_append_own_at w hgd s x t ho base e i z 1 bytes E.slice hi hz h2 h3 E.one (by omega) v n xs hs hown ⟨b, off, none⟩ ys.length cap ys hx (by simp)
  (fun j y hj => by
    obtain ⟨hj1, rfl⟩ := List.getElem?_eq_some_iff.1 hj
    obtain ⟨b', off', e', hc'⟩ := hcell j hj1
    injection e' with e'; injection e' with e1 e2
    subst e1 e2
    rw [Addr.add_lit]; exact hc') h1 hsz hby hb (fun v' w' q1 q2 _ q4 => h v' w' q1 q2 q4)
theorem zq5 {P : Program} {w : World} {o : Oper} {a : Act} {K : Act -> World -> Prop} {Q : Exit -> Act -> World -> Prop} (s x : Operand) {t e : TypeId} {z : Value} {bytes : Nat} (E : ElemOf P t e z bytes)
 (ho : o.op = .call { callee := .builtin .append, args := #[s, x], argTypes := #[t, t] }) {base : Nat} {v u : Value} {n : Nat} {xs ys : List Value} (hs : a.eval s = v) (hx : a.eval x = u)
 (hown : w.ownsRow base e 1 v n xs) (hu : Sl w u ys) (hne : 0 < ys.length) (h1 : ∀ y ∈ ys, y.oneCell' = true) (hsz : n + ys.length <= maxLen) (hby : (n + ys.length) * bytes <= 140737488355328) (hb : base <= w.heap.size)
 (h : ∀ v' w', w'.ownsRow base e 1 v' (n + ys.length) (xs ++ ys) -> w.grownBy w' v.ownBlock -> (v'.ownBlock = v.ownBlock \/ v'.ownBlock = some w.heap.size) -> K (a.put o.dst v') w') : o.wp P a w K Q := by
 obtain ⟨i, hi, hz, h2, h3⟩ := info_parts E.info
 obtain ⟨aa, cap, rfl, hc, hm, hn, hcell⟩ := hu
 obtain ⟨b, off, rfl, _⟩ := hcell 0 hne
 obtain ⟨v', w', hr, q1, q2, _, q4⟩ := run_append_own_at (P := P) (w := w) base t o.type e i z 1 bytes E.slice hi hz h2 h3 E.one (by omega) v n xs hown ⟨b, off, none⟩ ys.length cap ys (by simp)
  (fun j y hj => by
    obtain ⟨hj1, rfl⟩ := List.getElem?_eq_some_iff.1 hj
    obtain ⟨b', off', e', hc'⟩ := hcell j hj1
    injection e' with e'; injection e' with e1 e2
    subst e1 e2
    rw [Addr.add_lit]; exact hc') h1 hsz hby hb
 unfold Oper.wp execOp
 simp only [ho, resolve, invoke, builtin, Sem.run_bind, Sem.run_pure, Result.andThen_ok, List.map_toArray, List.map_cons, List.map_nil, hs, hx, hr]
 exact h v' w' q1 q2 q4
theorem zhu {w : World} {base n N : Nat} {v : Value} {xs : List Value} {b : List UInt8} (hf : (Page.frame b).length = N + b.length + 4) (h : w.ownsRow base 5 1 v (n + (u8s (Page.frame b)).length) xs) : ∃ g cap, v = .slice (some ⟨g, 0, none⟩) (n + (u8s (Page.frame b)).length) cap := by
 have hp : n + (u8s (Page.frame b)).length = (n + (u8s (Page.frame b)).length - 1) + 1 := by rw [u8s_length, hf]; omega
 rw [hp] at h ⊢
 exact ownsRow_succ h
set_option maxHeartbeats 4000000 in
theorem zfv {w : World} {base p : Nat} {va vp : Value} {S : Page.St} (h : IsSto w base p va vp S) (hbase : base <= w.heap.size) (v : Value) (bs : List UInt8) (hv : Bytes w v bs) (hl : bs.length <= 140737488355328) :
 Calls Tryz.prog 113 #[.pointer (some ⟨p, 0, none⟩), v] w (zd8 base p va vp S bs w) := by
 have H := Hi h
 obtain ⟨a, c, b, d, rfl, rfl⟩ := h.open
 have hhp := h.heap
 have c0 : w.cell? ⟨p, 0, none⟩ = some (.slice a (Page.bytes S.l).length c) := zaa h.heap 0
 have c1 : w.cell? ⟨p, 1, none⟩ = some (.slice b S.l.length d) := zaa h.heap 1
 have c3 : w.cell? ⟨p, 3, none⟩ = some (.bool S.off) := zaa h.heap 3
 have hmax := h.ok.max
 have hlenA := (BytesU.own h.all).1.len
 have HV := Hi hv
 obtain ⟨av, nv, cv, rfl⟩ := hv.isSlice
 have hlnv := hv.len
 obtain ⟨rfl, hnv1, hnv2⟩ := hlnv
 have hmono : Appended w base p (.slice a (Page.bytes S.l).length c) (.slice b S.l.length d) S bs w (.slice a (Page.bytes S.l).length c) (.slice b S.l.length d) \/ True := .inr trivial
 clear h hv hmono
 cases ho : S.off with
 | true =>
  rw [ho] at c3
  have HO := Hi ho
  clear ho
  go_enter Tryz.func113, Tryz.ntmps113
  go_wp2_with fail
  go_ret2
  have e1 : S.append bs = S := by unfold Page.St.append; rw [if_pos HO.out]
  have e2 : S.appendErr bs = 81 := by unfold Page.St.appendErr; rw [if_pos HO.out]
  have e3 : S.appendAt bs = 0 := by unfold Page.St.appendAt; rw [if_pos HO.out]
  exact ⟨by rw [e2, e3]; rfl, _, _, ⟨by rw [e1]; exact H.out, rfl, rfl, rfl, Nat.le_refl _, fun _ _ _ _ _ => rfl, .inl rfl, .inl rfl⟩⟩
 | false =>
  rw [ho] at c3
  have HO := Hi ho
  clear ho
  obtain ⟨n, hn⟩ : ∃ n, (Page.bytes S.l).length = n := ⟨_, rfl⟩
  obtain ⟨m, hm⟩ : ∃ m, S.l.length = m := ⟨_, rfl⟩
  have HN := Hi hn
  have HM := Hi hm
  rw [hn] at c0 hmax hlenA ⊢
  rw [hm] at c1 ⊢
  clear hn hm
  have hbl : (bs.length : Int) <= 9223372036854775807 := by omega
  have hnum := fun (wy : World) (q : Nat) (hq : Ints wy (.slice (some ⟨q, 0, none⟩) 1 1) [(bs.length : Int)]) => zb4 (.slice none 0 0) (.slice (some ⟨q, 0, none⟩) 1 1) [] [(bs.length : Int)] wy (zbo wy) hq (by simp) (by simp)
  have HNUM := Hi hnum
  clear hnum
  go_enter Tryz.func113, Tryz.ntmps113
  go_wp2_with fail
  have hi1 : Ints (w.alloc (.cells #[.int .i64 (bs.length : Int)] 3)) (.slice (some ⟨w.heap.size, 0, none⟩) 1 1) [(bs.length : Int)] := Ints.one w _
  refine (HNUM.out _ _ hi1).mono ?_
  have hok1 : [(bs.length : Int)].all okNum = true := by simp only [List.all_cons, List.all_nil, Bool.and_true]; exact zd9 ⟨by omega, by omega⟩
  rw [hok1, if_pos rfl]
  rintro e w1 ⟨u, rfl, ho1, hb1⟩
  have hnn : [] ++ nums [(bs.length : Int)] = Pack.num bs.length := by simp [nums]
  rw [hnn] at ho1
  obtain ⟨ua, un, uc, rfl⟩ := zao ho1
  have hlu := ho1.bytes.len
  obtain ⟨N, hN9⟩ : ∃ N, (Pack.num bs.length).length = N := ⟨_, rfl⟩
  have HN9 := Hi hN9
  rw [hN9] at hlu
  obtain ⟨rfl, hlu2, hlu3⟩ := hlu
  have hN10 : un <= 9 := by have := Pack.num_nine (n := bs.length) (by omega); omega
  have hE1 : Ext w w1 := Below.trans (B := w.heap.size) (Ext.alloc w _) (hb1.mono (by simp))
  have d0 := zbk c0 hE1
  have d1 := zbk c1 hE1
  have hroomv : Page.room S bs = decide (n + (un + bs.length + 4) <= 65536) := by unfold Page.room; rw [HN.out, Page.frame_length, HN9.out]
  have HRV := Hi hroomv
  have HO1 := Hi ho1
  have hB1s := hb1.size
  simp only [World.size_alloc] at hB1s
  clear hi1 hok1 hnn hN9 hroomv ho1 c0 c1
  by_cases hroom : n + (un + bs.length + 4) <= 65536
  . have HR : Hid (Page.room S bs = true) := Hi (by rw [HRV.out]; exact decide_eq_true hroom)
    go_wp2_with fail
    have hb65 : bs.length <= 65536 := by omega
    have dd : w1.drew.cell? ⟨p, 0, none⟩ = some (.slice a n c) := d0
    have hEd : Ext w w1.drew := hE1.trans (Ext.drew _)
    have hownA := H.out.all
    rw [HN.out] at hownA
    have HOA := Hi hownA
    have hsz1 : (u8s (Pack.num bs.length)).length = un := by rw [u8s_length]; exact HN9.out
    have hq1 : un + (u8s bs).length <= maxLen := by rw [u8s_length]; unfold maxLen; omega
    have hq2 : (un + (u8s bs).length) * 1 <= 140737488355328 := by rw [u8s_length]; omega
    have HQ1 := Hi hq1
    have HQ2 := Hi hq2
    have htl : (Page.textOf bs).length <= 100000 := by unfold Page.textOf; rw [List.length_append, HN9.out]; omega
    have HTL := Hi htl
    have hfl : (Page.frame bs).length = un + bs.length + 4 := by rw [Page.frame_length, HN9.out]
    have HFL := Hi hfl
    have hq3 : n + (u8s (Page.frame bs)).length <= maxLen := by rw [u8s_length, hfl]; unfold maxLen; omega
    have hq4 : (n + (u8s (Page.frame bs)).length) * 1 <= 140737488355328 := by rw [u8s_length, hfl]; omega
    have HQ3 := Hi hq3
    have HQ4 := Hi hq4
    have ho1' : w1.drew.ownsRow (w.heap.size + 1) 5 1 (.slice ua un uc) un (u8s (Pack.num bs.length)) := by
     have := HO1.out
     unfold Own at this
     rw [HN9.out, World.size_alloc] at this
     exact this
    have HO1' := Hi ho1'
    clear hownA hsz1 hq1 hq2 htl hfl hq3 hq4 ho1' hlenA
    go_region_law (first
     | (go_simp; go_at_call 137; refine (newT w1.drew).mono ?_; rintro e w2 ⟨rfl, hE2, ht2⟩; have hB2 : Ext w w2 := hEd.trans hE2; have k2 := zbk (zaa H.out.heap 0) hB2; rw [HN.out] at k2)
     | (go_simp; go_at_call 149; refine (zqp w1.heap.size v3 (Page.textOf bs) w3 ht3 hx3 HTL.out).mono ?_; rintro e w4 ⟨a4, n4, c4, rfl, ho4, hp4⟩; have hB4 : Ext w w4 := Below.trans (B := w.heap.size) hB3 (hp4.below hE1.size hB3.size); have k4 := zbk (zaa H.out.heap 0) hB4; rw [HN.out] at k4)
     | (rw [if_pos (by rfl)]; refine zlp (.tmp 40) (.tmp 41) tB8 rfl rfl rfl (za0 HO1'.out hE2) (HV.out.below hB2) (zc5 _) HQ1.out HQ2.out (by have := hB2.size; have := hE2.size; simp at this; omega) ?_; intro v3 w3 hown3 hg3; have hx3 : Bytes w3 v3 (Page.textOf bs) := (by have := Sl.ofOwn hown3; rw [<- u8s_append] at this; exact this); have ht3 := ht2.grown (za0 HO1'.out hE2) hg3 (by decide); have hB3 : Ext w w3 := Below.grown hB2 hg3 hB2.size (fun k e => by have := (HO1'.out.lt k e).1; omega); have k3 := zbk (zaa H.out.heap 0) hB3; rw [HN.out] at k3)
     | (rw [if_pos (by rfl)]; refine zq5 (.tmp 38) (.tmp 43) tB8 rfl rfl rfl (za0 HOA.out hB4) (show Sl w4 _ (u8s (Page.frame bs)) from Sl.ofOwn ho4) (by rw [u8s_length, HFL.out]; omega) (zc5 _) HQ3.out HQ4.out (by have := hB4.size; omega) ?_; intro v5 w5 hown5 hg5 hat5; obtain ⟨g5, c5, rfl⟩ := zhu HFL.out hown5; have hp5 := (hg5.block p (Nat.lt_of_lt_of_le H.out.lt hB4.size) (zaj (za0 HOA.out hB4) (zad H.out.heap hB4) (by decide))).trans (zad H.out.heap hB4); have k5 := zaa hp5 0; have f5 := zac hp5 0))
    all_goals
     have hpl := H.out.places
     rw [HM.out] at hpl
     have hA4 := za0 HOA.out hB4
     have hpl5 : w5.ownsRow base 3 1 (.slice b m d) m (i64s (Page.offs S.l)) := zew (za0 hpl hB4) (fun g cs hg => hg5.block g (Array.getElem?_eq_some_iff.1 hg).1 (zaj hA4 hg (by decide)))
     have hB45 : ∀ k, k < w.heap.size -> some k ≠ (Value.slice a n c).ownBlock -> w5.heap[k]? = w.heap[k]? := fun k hk hne => (hg5.block k (Nat.lt_of_lt_of_le hk hB4.size) hne).trans (hB4.block k hk)
     have hW5 : w5.os = w.os /\ w5.tape = w.tape /\ w5.output = w.output /\ w.heap.size <= w5.heap.size := ⟨hg5.os.trans hB4.os, hg5.tape.trans hB4.tape, hg5.output.trans hB4.output, Nat.le_trans hB4.size hg5.size⟩
     have hlen5 : (u8s (Page.frame bs)).length = un + bs.length + 4 := by rw [u8s_length]; exact HFL.out
     rw [hlen5, <- u8s_append, <- Page.bytes_snoc] at hown5
     rw [hlen5] at hat5
     rw [HFL.out]
     have hat5' : (Value.slice (some ⟨g5, 0, none⟩) (n + (un + bs.length + 4)) c5).ownBlock = (Value.slice a n c).ownBlock \/ ∃ k, (Value.slice (some ⟨g5, 0, none⟩) (n + (un + bs.length + 4)) c5).ownBlock = some k /\ w.heap.size <= k := by
      rcases hat5 with h | h
      . exact .inl h
      . exact .inr ⟨_, h, hB4.size⟩
     have hp6 := heap_setCell hp5 0 (.slice (some ⟨g5, 0, none⟩) (n + (un + bs.length + 4)) c5)
     have hown6 := zbe hown5 (zaj hown5 hp5 (by decide)) (za2 w5 p 0 (.slice (some ⟨g5, 0, none⟩) (n + (un + bs.length + 4)) c5))
     have hpl6 := zbe hpl5 (zaj hpl5 hp5 (by decide)) (za2 w5 p 0 (.slice (some ⟨g5, 0, none⟩) (n + (un + bs.length + 4)) c5))
     have hB6 : ∀ k, k < w.heap.size -> k ≠ p -> some k ≠ (Value.slice a n c).ownBlock -> (w5.setCell ⟨p, 0, none⟩ (.slice (some ⟨g5, 0, none⟩) (n + (un + bs.length + 4)) c5)).heap[k]? = w.heap[k]? := fun k hk hkp hne => (Below.heap_setCell _ _ _ k hkp).trans (hB45 k hk hne)
     have hW6 : (w5.setCell ⟨p, 0, none⟩ (.slice (some ⟨g5, 0, none⟩) (n + (un + bs.length + 4)) c5)).os = w.os /\ (w5.setCell ⟨p, 0, none⟩ (.slice (some ⟨g5, 0, none⟩) (n + (un + bs.length + 4)) c5)).tape = w.tape /\ (w5.setCell ⟨p, 0, none⟩ (.slice (some ⟨g5, 0, none⟩) (n + (un + bs.length + 4)) c5)).output = w.output /\ w.heap.size <= (w5.setCell ⟨p, 0, none⟩ (.slice (some ⟨g5, 0, none⟩) (n + (un + bs.length + 4)) c5)).heap.size := ⟨hW5.1, hW5.2.1, hW5.2.2.1, by simp [World.setCell]; exact hW5.2.2.2⟩
     clear hpl hA4 hpl5 hB45 hW5 hown5 hat5 hp5 hg5 hown3 hg3 hx3 ht3 hB3 k3 ho4 hp4 hB4 k4 hE2 ht2 hB2 k2 hlen5
     generalize w5.setCell ⟨p, 0, none⟩ (.slice (some ⟨g5, 0, none⟩) (n + (un + bs.length + 4)) c5) = w6 at *
     obtain ⟨L5, hL5⟩ : ∃ L5, n + (un + bs.length + 4) = L5 := ⟨_, rfl⟩
     rw [hL5] at hp6 hown6 hat5' ⊢
     have hL65 : L5 <= 65536 := by omega
     have HL5 := Hi hL5
     have hcm : m <= 65536 := by have := Page.count_le S.l; rw [HM.out, HN.out] at this; omega
     have k61 : w6.cell? ⟨p, 1, none⟩ = some (.slice b m d) := by
      have := zaa hp6 1
      rw [HM.out] at this
      exact this
     have hlt6 := (Array.getElem?_eq_some_iff.1 hp6).1
     have ha6 := (Below.heap_alloc w6 (.cells #[.int .i64 (n : Int)] 3) p hlt6).trans hp6
     have hpa6 := hpl6.alloc (.cells #[.int .i64 (n : Int)] 3)
     have hs1 : m + (i64s [(n : Int)]).length <= maxLen := by simp; unfold maxLen; omega
     have hs2 : (m + (i64s [(n : Int)]).length) * 8 <= 140737488355328 := by simp; omega
     have hs3 : base <= (w6.alloc (.cells #[.int .i64 (n : Int)] 3)).heap.size := by have := hW6.2.2.2; simp; omega
     have HS1 := Hi hs1
     have HS2 := Hi hs2
     have HS3 := Hi hs3
     have HA6 := Hi ha6
     clear hL5 hs1 hs2 hs3 ha6
     go_wp2_with (at_builtin; refine zjm rfl (.tmp 51) (.tmp 53) tIntE rfl (base := base) (n := m) (xs := i64s (Page.offs S.l)) (ys := i64s [(n : Int)]) rfl rfl hpa6 (Ints.one w6 (n : Int)) (by simp) (by intro y hy; simp [i64s] at hy; subst hy; rfl) HS1.out HS2.out HS3.out ?_; intro v7 w7 hown7 hg7 hat7; obtain ⟨g7, c7, rfl⟩ := ownsRow_succ hown7; have hp7 := (hg7.block p (Array.getElem?_eq_some_iff.1 HA6.out).1 (zaj hpa6 HA6.out (by decide))).trans HA6.out; have k7 := zaa hp7 1; have f7 := zac hp7 1)
     go_ret2
     have e1 : S.append bs = ⟨S.l ++ [bs], S.k, S.off⟩ := by unfold Page.St.append; rw [if_neg (by rw [HO.out]; simp), if_pos HR.out]
     have e2 : S.appendErr bs = 0 := by unfold Page.St.appendErr; rw [if_neg (by rw [HO.out]; simp), if_pos HR.out]
     have e3 : S.appendAt bs = n := by unfold Page.St.appendAt; rw [if_neg (by rw [HO.out]; simp), if_pos HR.out]; exact HN.out
     have hsyn : (⟨S.l ++ [bs], S.k, S.off⟩ : Page.St).syn = S.syn := by unfold Page.St.syn; simp only; rw [List.take_append_of_le_length H.out.ok.le]
     have hp8 := heap_setCell hp7 1 (.slice (some ⟨g7, 0, none⟩) (m + 1) c7)
     have hA7 : w7.ownsRow base 5 1 (.slice (some ⟨g5, 0, none⟩) L5 c5) L5 (u8s (Page.bytes (S.l ++ [bs]))) := zew (hown6.alloc _) (fun g cs hg => hg7.block g (Array.getElem?_eq_some_iff.1 hg).1 (zaj hpa6 hg (by decide)))
     have hA8 := zbe hA7 (zaj hA7 hp7 (by decide)) (za2 w7 p 1 (.slice (some ⟨g7, 0, none⟩) (m + 1) c7))
     have hP8 := zbe hown7 (zaj hown7 hp7 (by decide)) (za2 w7 p 1 (.slice (some ⟨g7, 0, none⟩) (m + 1) c7))
     have hl8 : (Page.bytes (S.l ++ [bs])).length = L5 := by rw [Page.bytes_snoc, List.length_append, HN.out, HFL.out]; exact HL5.out
     refine ⟨by rw [e2, e3]; rfl, .slice (some ⟨g5, 0, none⟩) L5 c5, .slice (some ⟨g7, 0, none⟩) (m + 1) c7, ⟨?_, ?_, ?_, ?_, ?_, ?_, ?_, ?_⟩⟩
     . rw [e1]
       refine ⟨?_, by rw [hl8]; exact hA8, ?_, by rw [<- e1]; exact H.out.ok.append bs⟩
       . rw [hsyn]
         exact hp8
       . rw [Page.offs_snoc, HN.out, zik, List.length_append, HM.out]
         exact hP8
     . exact hg7.os.trans hW6.1
     . exact hg7.tape.trans hW6.2.1
     . exact hg7.output.trans hW6.2.2.1
     . have h1 := hg7.size
       have h2 := hW6.2.2.2
       simp [World.setCell] at h1 ⊢
       omega
     . intro k hk hkp hka hkb
       have h2 := hW6.2.2.2
       exact (Below.heap_setCell _ _ _ k hkp).trans ((hg7.block k (by simp; omega) hkb).trans ((Below.heap_alloc w6 _ k (by omega)).trans (hB6 k hk hkp hka)))
     . rcases hat5' with h | ⟨q, h, hq⟩
       . exact .inr (.inl h)
       . refine .inr (.inr fun k hk => ?_)
         have : some q = some k := h.symm.trans hk
         injection this with this
         omega
     . rcases hat7 with h | h
       . exact .inr (.inl h)
       . refine .inr (.inr fun k hk => ?_)
         have h2 := hW6.2.2.2
         have := h.symm.trans hk
         injection this with this
         simp at this
         omega
  . have HR : Hid (Page.room S bs = false) := Hi (by rw [HRV.out]; exact decide_eq_false hroom)
    have hgt : (65536 : Int) - (n : Int) < (un : Int) + (bs.length : Int) + 4 := by omega
    go_wp2_with fail
    go_ret2
    have e1 : S.append bs = S := by unfold Page.St.append; rw [if_neg (by rw [HO.out]; simp), if_neg (by rw [HR.out]; simp)]
    have e2 : S.appendErr bs = 80 := by unfold Page.St.appendErr; rw [if_neg (by rw [HO.out]; simp), if_neg (by rw [HR.out]; simp)]
    have e3 : S.appendAt bs = 0 := by unfold Page.St.appendAt; rw [if_neg (by rw [HO.out]; simp), if_neg (by rw [HR.out]; simp)]
    have hst := H.out.ext hE1
    rw [HN.out, HM.out] at hst
    exact ⟨by rw [e2, e3]; rfl, _, _, ⟨by rw [e1]; exact hst, hE1.os, hE1.tape, hE1.output, hE1.size, fun k hk _ _ _ => hE1.block k hk, .inl rfl, .inl rfl⟩⟩
end Go.Proofs.YtnoeconcpgdjlaaGreat
