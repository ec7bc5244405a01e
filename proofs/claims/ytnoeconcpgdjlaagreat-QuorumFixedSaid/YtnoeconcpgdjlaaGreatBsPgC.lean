import Derived.Test.YtnoeconcpgdjlaaGreatBsPgB
import Derived.Test.YtnoeconcpgdjlaaGreatBsRound
namespace Go.Proofs.YtnoeconcpgdjlaaGreat
set_option linter.unusedSimpArgs false
set_option linter.unusedVariables false
open Go.RowKit Go.Shelf
attribute [local go_sem] Oper.semAt_some
structure Elem where
 pos : Nat
 a : Option Addr
 n : Nat
 c : Nat
 x : List UInt8
def Elem.val (e : Elem) : Value := .slice e.a e.n e.c
def Elem.encs (e : Elem) : Array Value := #[.int .i64 (e.pos : Int), .slice e.a e.n e.c]
def Elem.Good (e : Elem) (w : World) : Prop := BytesU w (.slice e.a e.n e.c) e.x
def isTab (o : Obj) : Prop := ∃ (cs : Array Value) (fr : Nat × Nat), o = .cells cs 234 fr
def KpF (n₀ : Nat) (X : Nat -> Prop) (A C : World) : Prop := ∀ (k : Nat) (o : Obj), A.heap[k]? = some o -> ((k < n₀ /\ ¬ X k) \/ isTab o) -> C.heap[k]? = some o
structure StF (B : Nat) (A C : World) : Prop where
 os : C.os = A.os
 tape : C.tape = A.tape
 output : C.output = A.output
 size : A.heap.size <= C.heap.size
 same : ∀ (k : Nat) (o : Obj), A.heap[k]? = some o -> (k < B \/ ¬ isTab o) -> C.heap[k]? = some o
theorem KpF.refl (n₀ : Nat) (X : Nat -> Prop) (A : World) : KpF n₀ X A A := fun _ _ h _ => h
theorem KpF.trans {n₀ : Nat} {X : Nat -> Prop} {A B C : World} (h : KpF n₀ X A B) (k : KpF n₀ X B C) : KpF n₀ X A C := fun i o hi ho => k i o (h i o hi ho) ho
theorem KpF.put {n₀ : Nat} {X : Nat -> Prop} (W : World) (l : Nat) (o o' : Obj) (hl : n₀ <= l) (h : W.heap[l]? = some o) (ho : o.isCells = false) : KpF n₀ X W (W.putObj l o') := fun k q hk hq => by
 by_cases e : k = l
 . subst e
   rw [h] at hk
   cases hk
   rcases hq with hq | ⟨cs, fr, rfl⟩
   . omega
   . cases ho
 . exact (World.putObj_heap_other e).trans hk
theorem StF.ext {B : Nat} {A C : World} (h : Ext A C) : StF B A C := ⟨h.os, h.tape, h.output, h.size, fun k o hk _ => (h.block k (Array.getElem?_eq_some_iff.1 hk).1).trans hk⟩
theorem StF.but {B q : Nat} {A C : World} (h : But q A C) (hq : B <= q) (ht : TB A q) : StF B A C := ⟨h.os, h.tape, h.output, h.size, fun k o hk ho => by
 refine (h.block k (Array.getElem?_eq_some_iff.1 hk).1 ?_).trans hk
 rintro rfl
 obtain ⟨d, c, _, ht⟩ := ht
 unfold Tab at ht
 rw [ht] at hk
 cases hk
 rcases ho with ho | ho
 . omega
 . exact ho ⟨_, _, rfl⟩⟩
theorem TB.kp {n₀ q : Nat} {X : Nat -> Prop} {A C : World} (h : TB A q) (hk : KpF n₀ X A C) : TB C q := by
 obtain ⟨d, c, hd, h⟩ := h
 refine ⟨d, c, hd, ?_⟩
 unfold Tab at h ⊢
 exact hk _ _ h (.inr ⟨_, _, rfl⟩)
def SameBut (n₀ : Nat) (X : Nat -> Prop) (A C : World) : Prop := ∀ k, k < n₀ -> ¬ X k -> C.heap[k]? = A.heap[k]?
theorem SameBut.refl (n₀ : Nat) (X : Nat -> Prop) (A : World) : SameBut n₀ X A A := fun _ _ _ => rfl
theorem SameBut.below {n₀ : Nat} {X : Nat -> Prop} {A C : World} (h : Below n₀ A C) : SameBut n₀ X A C := fun k hk _ => h.block k hk
theorem SameBut.kp {n₀ : Nat} {X : Nat -> Prop} {w A C : World} (h : SameBut n₀ X w A) (hn : n₀ <= w.heap.size) (hk : KpF n₀ X A C) : SameBut n₀ X w C := fun k hkn hkp => by
 have h1 := h k hkn hkp
 have hlt : k < w.heap.size := by omega
 have h2 : w.heap[k]? = some w.heap[k] := by simp [hlt]
 rw [h2] at h1 ⊢
 exact hk k _ h1 (.inl ⟨hkn, hkp⟩)
theorem SameBut.st {n₀ B : Nat} {X : Nat -> Prop} {w A C : World} (h : SameBut n₀ X w A) (hn : n₀ <= w.heap.size) (hB : n₀ <= B) (hs : StF B A C) : SameBut n₀ X w C := fun k hkn hkp => by
 have h1 := h k hkn hkp
 have hlt : k < w.heap.size := by omega
 have h2 : w.heap[k]? = some w.heap[k] := by simp [hlt]
 rw [h2] at h1 ⊢
 exact hs.same k _ h1 (.inl (by omega))
def Off (X : Nat -> Prop) (v : Value) : Prop := ∀ ad n c, v = .slice (some ad) n c -> 0 < n -> ¬ X ad.block
theorem Bytes.offNew {X : Nat -> Prop} {w : World} {v : Value} {l : List UInt8} (h : Bytes w v l) (hx : ∀ k, X k -> w.heap.size <= k) : Off X v := by
 rintro ad n c rfl hn hX
 have hl := h.len
 obtain ⟨a', cap', e, _, _, _, h3⟩ := h.open
 obtain ⟨b, off, e2, hc⟩ := h3 0 (by omega)
 injection e with e
 rw [<- e] at e2
 injection e2 with e2
 have := World.block_lt_of_cell? w _ hc
 have h5 := hx _ hX
 rw [e2] at h5
 simp only at h5 this
 omega
theorem Bytes.same {X : Nat -> Prop} {w A : World} {v : Value} {l : List UInt8} (h : Bytes w v l) (ho : Off X v) (hs : SameBut w.heap.size X w A) : Bytes A v l := by
 obtain ⟨ad, cap, rfl, h1, h2, h4, h3⟩ := h
 refine ⟨ad, cap, rfl, h1, h2, h4, fun i hi => ?_⟩
 obtain ⟨q, off, e, hc⟩ := h3 i hi
 subst e
 exact ⟨q, off, rfl, (World.cell?_of_block (hs q (World.block_lt_of_cell? w _ hc) (ho _ _ _ rfl (by omega)))).trans hc⟩
set_option maxRecDepth 100000 in
set_option maxHeartbeats 2000000 in
theorem zlu (n : Nat) (hn : 1 <= n) (l B : Nat) (X : Nat -> Prop) (bv : Value) (bs : List UInt8) (wq : World) (hb : Bytes wq bv bs) (hoff : Off X bv) (hlen : bs.length <= 200000) (hBp : ¬ X B) (hBq : B < wq.heap.size)
 (J : List Elem -> World -> Prop) (W : World) (hJ : ∀ s A C, J s A -> StF W.heap.size A C -> J s C)
 (hY : ∀ pre x V, J pre V -> pre.length < bs.length -> x.Good V -> YieldAt Fence.wide (n - 1) Tryz.prog l x.encs V fun e V' => e = .returned (.bool true) /\ J (pre ++ [x]) V' /\ KpF wq.heap.size X V V')
 (hW : Below wq.heap.size wq W) (hbox : wq.cell? ⟨B, 0, none⟩ = some bv) (h0 : J [] W) :
 CallsIn Fence.wide n Tryz.prog 144 #[.func (.yield l) #[] #[], .pointer (some ⟨B, 0, none⟩)] W fun e W' => (∃ v, e = .returned v) ∧
  ∃ xs : List Elem, (xs.map Elem.x = (Page.scan bs).1 /\ xs.map Elem.pos = Page.ends (Page.scan bs).1) /\ J xs W' := by
 obtain ⟨a, cap, rfl, hcap, hmax, _⟩ := hb.open
 unfold maxLen at hmax
 have HB := Hi hb
 clear hb
 refine callsIn_of_wp Tryz.func144 rfl trivial ?_ rfl
 simp only [Tryz.ntmps144, List.size_toArray, List.length_cons, List.length_nil, Nat.reduceAdd, Nat.reduceSub, Array.replicate_succ, Array.replicate_zero, List.push_toArray, List.append_toArray, List.nil_append, List.cons_append]
 gi_wp2
 refine ⟨trivial, (callsIn_wide.2 (newT W)).mono ?_⟩
 rintro e w1 ⟨rfl, hE1, hT1⟩
 have hJ1 : J [] w1 := hJ _ _ _ h0 (StF.ext hE1)
 have hS1 : SameBut wq.heap.size X wq w1 := SameBut.below (hW.trans (Below.mono hE1 hW.size))
 have hWs := hW.size
 gi_wp2
 gi_loopw [4] (fun i wr => ∃ (pre : List Elem) (m : List (List UInt8)) (r : List UInt8), i = .int .i64 ((Page.bytes m).length : Nat) /\ Hid (bs = Page.bytes m ++ r) /\ Hid (∀ x ∈ m, Page.small x) /\ Hid (pre.map Elem.x = m /\ pre.map Elem.pos = Page.ends m) /\ J pre wr /\ TB wr W.heap.size /\ SameBut wq.heap.size X wq wr)
  (fun i _ => bs.length - (intOf i).toNat)
 case atStart => exact ⟨[], [], bs, rfl, Hi rfl, Hi (by simp), Hi ⟨rfl, rfl⟩, hJ1, hT1, hS1⟩
 case round =>
  obtain ⟨pre, m, r, rfl, hbs, hsm, hpre, hJr, hTr, hSr⟩ := hrel
  clear hJ1 hT1 hS1 hE1
  have hbl : bs.length = (Page.bytes m).length + r.length := by rw [hbs.out, List.length_append]
  have hbr : Bytes wr (.slice a bs.length cap) bs := HB.out.same hoff hSr
  have hpt := hbr.part (Page.bytes m).length bs.length (by omega) (Nat.le_refl _)
  have hdr : (bs.take bs.length).drop (Page.bytes m).length = r := by
   rw [List.take_length]
   exact (congrArg (List.drop _) hbs.out).trans List.drop_left
  rw [hdr] at hpt
  have hrl : r.length <= 200000 := by omega
  have hcell : wr.cell? ⟨B, 0, none⟩ = some (.slice a bs.length cap) := (World.cell?_of_block (hSr B hBq hBp)).trans hbox
  have hfirst := zm9 W.heap.size _ r wr hTr hpt hrl
  obtain ⟨A, hA⟩ : ∃ A, (if bs.length = (Page.bytes m).length then a else a.map (·.add (Page.bytes m).length)) = A := ⟨_, rfl⟩
  rw [hA] at hfirst
  obtain ⟨at0, hat⟩ : ∃ k : Nat, (Page.bytes m).length = k := ⟨_, rfl⟩
  rw [hat] at hfirst hA ⊢
  have hle : at0 <= bs.length := by omega
  have hmaxi : (bs.length : Int) <= 9223372036854775807 := by omega
  have HF := Hi hfirst
  have HAT := Hi hat
  have HBL := Hi hbl
  clear hfirst hat hbl hbr hpt hdr
  by_cases hEq : bs.length = at0
  . rw [if_pos hEq] at hA
    subst hA
    have hr0 : r = [] := List.eq_nil_of_length_eq_zero (by have := HBL.out; have := HAT.out; omega)
    have hn0 : Page.first r = none := by rw [hr0]; exact Page.first_nil
    have hcl : Calls Tryz.prog 145 #[.slice a 0 0, .pointer (some ⟨W.heap.size, 0, none⟩)] wr (zgv W.heap.size wr none) := by
     have := HF.out
     rw [hn0, hEq, Nat.sub_self] at this
     exact this
    have HN := Hi hn0
    have HC := Hi hcl
    clear hn0 hcl hr0
    gi_wp2
    refine ⟨trivial, (callsIn_wide.2 HC.out).mono ?_⟩
    rintro e w3 ⟨hb3, ht3, rfl⟩
    have hst3 : StF W.heap.size wr w3 := StF.but hb3 (Nat.le_refl _) hTr
    gi_wp2
    refine bodyPost_ret (results_none rfl _ _ _) rfl ?_
    have hsc := Page.scan_more hbs.out hsm.out HN.out
    exact ⟨⟨_, rfl⟩, pre, by rw [hsc.1]; exact hpre.out, hJ _ _ _ hJr hst3⟩
  . rw [if_neg hEq] at hA
    subst hA
    have hsz : ((bs.length - at0 : Nat) : Int) = (bs.length : Int) - (at0 : Int) := by omega
    clear hsz
    gi_wp2
    refine ⟨trivial, (callsIn_wide.2 HF.out).mono ?_⟩
    rintro e w3 ⟨hb3, ht3, hgv⟩
    have hst3 : StF W.heap.size wr w3 := StF.but hb3 (Nat.le_refl _) hTr
    have hJ3 := hJ _ _ _ hJr hst3
    have hS3 := hSr.st (Nat.le_refl _) hWs hst3
    cases hfr : Page.first r with
    | none =>
     rw [hfr] at hgv
     simp only at hgv
     subst hgv
     have HN := Hi hfr
     clear hfr
     gi_wp2
     refine bodyPost_ret (results_none rfl _ _ _) rfl ?_
     have hsc := Page.scan_more hbs.out hsm.out HN.out
     exact ⟨⟨_, rfl⟩, pre, by rw [hsc.1]; exact hpre.out, hJ3⟩
    | some x =>
     rw [hfr] at hgv
     obtain ⟨a3, n3, c3, rfl, hgood⟩ := hgv
     obtain ⟨hx1, hx2⟩ := Page.first_iff.1 hfr
     have HX := Hi hx1
     have HX2 := Hi hx2
     have hfl := hx2.length_le
     have hfp := Page.frame_pos x
     obtain ⟨Z, hZ⟩ : ∃ Z, (Page.frame x).length = Z := ⟨_, rfl⟩
     have HZ := Hi hZ
     have hpl : pre.length < bs.length := by
      have h1 : pre.length = m.length := by rw [<- hpre.out.1]; simp
      have h2 := Page.count_le m
      have h3 := HBL.out
      omega
     obtain ⟨fn, tmps, assign, body, hy, hR⟩ := hY pre ⟨at0 + Z, a3, n3, c3, x⟩ w3 hJ3 hpl hgood
     rw [hZ] at hfl hfp ⊢
     have hatz : at0 + Z <= bs.length := by have h3 := HBL.out; have := HAT.out; omega
     clear hfr hx1 hx2 hZ hgood hpl
     dsimp only [Elem.encs] at hy
     have hcast : ((at0 + Z : Nat) : Int) = (at0 : Int) + (Z : Int) := by omega
     rw [hcast] at hy
     clear hcast
     gi_wp2
     refine hR.mono ?_
     rintro e w4 ⟨rfl, hJ4, hk4⟩
     gi_wp2
     go_roundw
     case rel =>
      obtain ⟨r2, hr2⟩ := HX2.out
      refine ⟨pre ++ [⟨at0 + Z, a3, n3, c3, x⟩], m ++ [x], r2, ?_, Hi ?_, Hi ?_, Hi ⟨?_, ?_⟩, hJ4, ht3.kp hk4, hS3.kp (Nat.le_refl _) hk4⟩
      . rw [Page.bytes_snoc, List.length_append, HAT.out, HZ.out]
        simp
      . rw [Page.bytes_snoc, List.append_assoc, hr2]
        exact hbs.out
      . intro y hy
        rcases List.mem_append.1 hy with hy | hy
        . exact hsm.out y hy
        . obtain rfl := List.mem_singleton.1 hy
          exact HX.out
      . rw [List.map_append, hpre.out.1]
        rfl
      . rw [List.map_append, hpre.out.2, Page.ends_snoc, HAT.out, HZ.out]
        rfl
     case measure =>
      simp [intOf]
      omega
theorem ze8 (n : Nat) (hn : 1 <= n) (B : Nat) (X : Nat -> Prop) (bv : Value) (bs : List UInt8) (wq : World) (hb : Bytes wq bv bs) (hoff : Off X bv) (hlen : bs.length <= 200000) (hBp : ¬ X B) (hBq : B < wq.heap.size) (hbox : wq.cell? ⟨B, 0, none⟩ = some bv) :
 Tells Fence.wide n Tryz.prog 144 #[.pointer (some ⟨B, 0, none⟩)] Elem.encs (KpF wq.heap.size X) StF Elem.Good (fun xs => xs.map Elem.x = (Page.scan bs).1 /\ xs.map Elem.pos = Page.ends (Page.scan bs).1) bs.length wq :=
 fun l J W hW hJ hY h0 => zlu n hn l B X bv bs wq hb hoff hlen hBp hBq J W hJ hY hW hbox h0
set_option maxHeartbeats 1000000 in
theorem zgs (v : Value) (w : World) (hv : ∃ a n c, v = .slice a n c) :
 Calls Tryz.prog 110 #[v] w fun e w' => e = .returned (.func (.func 144) #[] #[.pointer (some ⟨w.heap.size, 0, none⟩)]) /\ w' = w.alloc (.cells #[v] 141) := by
 obtain ⟨a, n, c, rfl⟩ := hv
 have hmf : ∀ (fn : Fn) (first cap : Array Value) (w : World), (Instr.makeFunc fn first cap).run Tryz.prog w = .ok (.func fn first cap) w := fun _ _ _ _ => rfl
 go_enter Tryz.func110, Tryz.ntmps110
 go_wp2
 go_ret
 exact ⟨rfl, rfl⟩
theorem Elem.Good.keep {e : Elem} {a b : World} (h : e.Good a) (hk : KeepU a b) : e.Good b := BytesU.keep h hk
theorem KeepU.put (W : World) (l : Nat) (o o' : Obj) (h : W.heap[l]? = some o) (ho : o.isCells = false) : KeepU W (W.putObj l o') := fun k cs fr hk => World.putObj_heap_other (by
 rintro rfl
 rw [h] at hk
 cases hk
 cases ho)
theorem KeepU.st {B : Nat} {A C : World} (h : StF B A C) (ht : 5 ≠ 234) : KeepU A C := fun k cs fr hk => (h.same k _ hk (.inr (by rintro ⟨cs', fr', e⟩; injection e with _ e _; exact ht e))).trans hk.symm
end Go.Proofs.YtnoeconcpgdjlaaGreat
