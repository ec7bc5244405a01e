import Derived.Lib.ConvBytes
import Derived.Deep.RegionLaw
import Derived.Deep.RegionHeld3
import Derived.Test.YtnoeconcpgdjlaaGreatRows
import Derived.Test.YtnoeconcpgdjlaaGreatChecked
import Derived.SizedLaws
import Derived.Test.YtnoeconcpgdjlaaGreatBsCrcPut
import Derived.Test.YtnoeconcpgdjlaaGreatBsCrcRef
import Derived.Test.YtnoeconcpgdjlaaGreatBsLib
import Derived.Test.YtnoeconcpgdjlaaGreatBsLibW
import Derived.Test.YtnoeconcpgdjlaaGreatBsMath
import Derived.Test.YtnoeconcpgdjlaaGreatBsPack
import Derived.Test.YtnoeconcpgdjlaaGreatBsPack2
import Derived.Test.YtnoeconcpgdjlaaGreatBsVec
set_option linter.unusedSimpArgs false
set_option linter.unusedVariables false
namespace Go.Proofs.YtnoeconcpgdjlaaGreat
set_option maxRecDepth 100000
open Go.RowKit
def recV (t : Value) (r : Rec.R) : Value := .agg #[.int .i64 r.client, .int .i64 r.number, t, .string ⟨r.data.toArray⟩]
def IsRec (w : World) (v : Value) (r : Rec.R) : Prop := ∃ t, v = recV t r /\ Ints w t r.tags
theorem IsRec.below {w w' : World} {v : Value} {r : Rec.R} (h : IsRec w v r) (hb : Below w.heap.size w w') : IsRec w' v r := by
 obtain ⟨t, rfl, h⟩ := h
 exact ⟨t, rfl, h.below hb⟩
theorem zpa (w : World) (c n : Int) (t : Value) (s : ByteArray) : (Instr.box 44 (.agg #[.int .i64 c, .int .i64 n, t, .string s])).run Tryz.prog w = .ok (.pointer (some ⟨w.heap.size, 0, none⟩)) (w.alloc (.cells #[.int .i64 c, .int .i64 n, t, .string s] 44)) := by kernel_rfl
def Rec.tagsOk (ns : List Int) : Bool := decide (ns.length <= 8) && Rec.rising 0 ns
theorem Rec.right_eq (r : Rec.R) : Rec.right r = (Rec.okId r.client && (Rec.okId r.number && (Rec.tagsOk r.tags && decide (r.data.length <= 1024)))) := by
 unfold Rec.right Rec.tagsOk
 have e : decide (r.tags.length <= 8 /\ r.data.length <= 1024) = (decide (r.tags.length <= 8) && decide (r.data.length <= 1024)) := by rw [Bool.decide_and]
 rw [e]
 cases Rec.okId r.client <;> cases Rec.okId r.number <;> cases Rec.rising 0 r.tags <;> cases decide (r.tags.length <= 8) <;> cases decide (r.data.length <= 1024) <;> rfl
set_option maxHeartbeats 1000000 in
theorem zbq (n : Int) (w : World) : Calls Tryz.prog 115 #[.int .i64 n] w fun e w' => e = .returned (.bool (Rec.okId n)) /\ w = w' := by
 by_cases h0 : 0 <= n
 . by_cases h1 : n <= 1099511627776
   . have e : Rec.okId n = true := by unfold Rec.okId; simp; omega
     rw [e]
     clear e
     go_enter Tryz.func115, Tryz.ntmps115
     go_wp2
     go_ret
     exact ⟨rfl, rfl⟩
   . have e : Rec.okId n = false := by unfold Rec.okId; simp; omega
     rw [e]
     clear e
     go_enter Tryz.func115, Tryz.ntmps115
     go_wp2
     go_ret
     exact ⟨rfl, rfl⟩
 . have e : Rec.okId n = false := by unfold Rec.okId; simp; omega
   rw [e]
   clear e
   go_enter Tryz.func115, Tryz.ntmps115
   go_wp2
   go_ret
   exact ⟨rfl, rfl⟩
def Rec.lastOf (l : List Int) : Int := l.getLast?.getD 0
theorem Rec.rising_snoc (last : Int) (l : List Int) (x : Int) : Rec.rising last (l ++ [x]) = (Rec.rising last l && decide ((if l = [] then last else Rec.lastOf l) < x /\ x <= 1073741824)) := by
 induction l generalizing last with
 | nil => simp [Rec.rising]
 | cons t l ih =>
  have e : (if l = [] then t else Rec.lastOf l) = Rec.lastOf (t :: l) := by
   cases l with
   | nil => rfl
   | cons a l => simp [Rec.lastOf, List.getLast?_cons]
  simp only [List.cons_append, Rec.rising, ih, e, Bool.and_assoc, if_neg (List.cons_ne_nil t l)]
theorem Rec.rising_snoc0 (l : List Int) (x : Int) : Rec.rising 0 (l ++ [x]) = (Rec.rising 0 l && decide (Rec.lastOf l < x /\ x <= 1073741824)) := by
 rw [Rec.rising_snoc]
 cases l with
 | nil => rfl
 | cons a l => rw [if_neg (List.cons_ne_nil a l)]
theorem Rec.lastOf_snoc (l : List Int) (x : Int) : Rec.lastOf (l ++ [x]) = x := by
 simp [Rec.lastOf]
theorem Rec.rising_take {l : List Int} (k : Nat) (h : Rec.rising 0 (l.take k) = false) : Rec.rising 0 l = false := by
 have key : ∀ (l : List Int) (last : Int) (k : Nat), Rec.rising last (l.take k) = false -> Rec.rising last l = false := by
  intro l
  induction l with
  | nil => intro last k h; simpa using h
  | cons t l ih =>
   intro last k h
   cases k with
   | zero => simp [Rec.rising] at h
   | succ k =>
    simp only [List.take_succ_cons, Rec.rising, Bool.and_eq_false_iff] at h ⊢
    rcases h with h | h
    . exact .inl h
    . exact .inr (ih t k h)
 exact key l 0 k h
set_option maxHeartbeats 2000000 in
theorem zfz (v : Value) (ns : List Int) (w : World) (hv : Ints w v ns) :
 Calls Tryz.prog 116 #[v] w fun e w' => e = .returned (.bool (Rec.tagsOk ns)) /\ w = w' := by
 obtain ⟨a, cap, rfl, hcap, hmax, _, hc⟩ := hv.open
 unfold maxLen at hmax
 by_cases h8 : (8 : Int) < (ns.length : Int)
 . have e : Rec.tagsOk ns = false := by unfold Rec.tagsOk; rw [decide_eq_false (by omega)]; rfl
   rw [e]
   clear e hc hv
   go_enter Tryz.func116, Tryz.ntmps116
   go_wp2
   go_ret
   exact ⟨rfl, rfl⟩
 . have e : Rec.tagsOk ns = Rec.rising 0 ns := by unfold Rec.tagsOk; rw [decide_eq_true (by omega)]; rfl
   rw [e]
   clear e hv
   go_enter Tryz.func116, Tryz.ntmps116
   go_wp2
   go_loop [3, 5, 11] (fun s _ i => ∃ k : Nat, k <= ns.length /\ i = .int .i64 k /\ (∃ m : Int, s = .int .i64 m /\ Hid (m = Rec.lastOf (ns.take k))) /\ Hid (Rec.rising 0 (ns.take k) = true)) (fun _ _ i => ns.length - (intOf i).toNat)
   case atStart => exact ⟨0, by omega, rfl, ⟨0, rfl, rfl⟩, rfl⟩
   case round =>
    obtain ⟨k, hk, rfl, ⟨m, rfl, hm⟩, hr⟩ := hrel
    by_cases hlt : k < ns.length
    . obtain ⟨b, off, rfl, hcell⟩ := hc k hlt
      clear hc
      have hnext : Rec.rising 0 (ns.take (k + 1)) = decide (m < ns[k] /\ ns[k] <= 1073741824) := by
       rw [zam ns k hlt, Rec.rising_snoc0, hr.out, hm.out]
       rfl
      have hlast : Rec.lastOf (ns.take (k + 1)) = ns[k] := by rw [zam ns k hlt, Rec.lastOf_snoc]
      by_cases h0 : ns[k] <= m
      . have e := Hi (Rec.rising_take (l := ns) (k + 1) (by rw [hnext]; simp; omega))
        clear hnext hlast
        go_wp2
        go_ret
        exact ⟨by rw [e.out]; rfl, rfl⟩
      . by_cases h1 : (1073741824 : Int) < ns[k]
        . have e := Hi (Rec.rising_take (l := ns) (k + 1) (by rw [hnext]; simp; omega))
          clear hnext hlast
          go_wp2
          go_ret
          exact ⟨by rw [e.out]; rfl, rfl⟩
        . have ok := Hi (show Rec.rising 0 (ns.take (k + 1)) = true by rw [hnext]; simp; omega)
          have HL := Hi hlast
          clear hnext hlast
          go_wp2
          go_round
          case rel => exact ⟨k + 1, by omega, by go_num, ⟨_, rfl, HL.out.symm⟩, ok⟩
          case measure => simp [intOf]; omega
    . have hs : Hid (Rec.rising 0 ns = true) := by
       have := hr.out; rw [List.take_of_length_le (by omega)] at this; exact this
      clear hr hc hm
      go_wp2
      go_ret
      exact ⟨by rw [hs.out]; rfl, rfl⟩
set_option maxHeartbeats 2000000 in
theorem zlr (v : Value) (r : Rec.R) (w : World) (hv : IsRec w v r) :
 Calls Tryz.prog 92 #[v] w fun e w' => e = .returned (.bool (Rec.right r)) /\ Ext w w' := by
 obtain ⟨t, rfl, ht⟩ := hv
 have hbx := zpa
 unfold recV
 rw [Rec.right_eq]
 have HT := Hi ht
 obtain ⟨a, cap, rfl, hcap, hmax, _, _⟩ := ht.open
 unfold maxLen at hmax
 have hs := zop r.data
 clear ht
 cases h1 : Rec.okId r.client with
 | false =>
  have H1 := Hi h1
  clear h1
  go_enter Tryz.func92, Tryz.ntmps92
  go_wp2_with fail
  refine (zbq _ _).mono ?_
  rintro e w1 ⟨rfl, rfl⟩
  rw [H1.out]
  go_wp2_with fail
  go_ret
  exact ⟨rfl, Ext.alloc _ _⟩
 | true =>
  cases h2 : Rec.okId r.number with
  | false =>
   have H1 := Hi h1
   have H2 := Hi h2
   clear h1 h2
   go_enter Tryz.func92, Tryz.ntmps92
   go_wp2_with fail
   refine (zbq _ _).mono ?_
   rintro e w1 ⟨rfl, rfl⟩
   rw [H1.out]
   go_wp2_with fail
   refine (zbq _ _).mono ?_
   rintro e w1 ⟨rfl, rfl⟩
   rw [H2.out]
   go_wp2_with fail
   go_ret
   exact ⟨rfl, Ext.alloc _ _⟩
  | true =>
   cases h3 : Rec.tagsOk r.tags with
   | false =>
    have H1 := Hi h1
    have H2 := Hi h2
    have H3 := Hi h3
    clear h1 h2 h3
    go_enter Tryz.func92, Tryz.ntmps92
    go_wp2_with fail
    refine (zbq _ _).mono ?_
    rintro e w1 ⟨rfl, rfl⟩
    rw [H1.out]
    go_wp2_with fail
    refine (zbq _ _).mono ?_
    rintro e w1 ⟨rfl, rfl⟩
    rw [H2.out]
    go_wp2_with fail
    refine (zfz _ r.tags _ (HT.out.below (Ext.alloc _ _))).mono ?_
    rintro e w1 ⟨rfl, rfl⟩
    rw [H3.out]
    go_wp2_with fail
    go_ret
    exact ⟨rfl, Ext.alloc _ _⟩
   | true =>
    have H1 := Hi h1
    have H2 := Hi h2
    have H3 := Hi h3
    clear h1 h2 h3
    have hd : decide (r.data.length <= 1024) = decide ((r.data.length : Int) <= 1024) := by
     rw [Bool.eq_iff_iff, decide_eq_true_eq, decide_eq_true_eq]
     omega
    have hd' := Hi hd
    clear hd
    go_enter Tryz.func92, Tryz.ntmps92
    go_wp2_with fail
    refine (zbq _ _).mono ?_
    rintro e w1 ⟨rfl, rfl⟩
    rw [H1.out]
    go_wp2_with fail
    refine (zbq _ _).mono ?_
    rintro e w1 ⟨rfl, rfl⟩
    rw [H2.out]
    go_wp2_with fail
    refine (zfz _ r.tags _ (HT.out.below (Ext.alloc _ _))).mono ?_
    rintro e w1 ⟨rfl, rfl⟩
    rw [H3.out]
    go_wp2_with fail
    go_ret
    exact ⟨by rw [hd'.out]; rfl, Ext.alloc _ _⟩
def RecAt (w : World) (p : Nat) (t : Value) (r : Rec.R) : Prop := w.heap[p]? = some (.cells #[.int .i64 r.client, .int .i64 r.number, t, .string ⟨r.data.toArray⟩] 44 (0, 0))
theorem RecAt.new (w : World) (t : Value) (r : Rec.R) : RecAt (w.alloc (.cells #[.int .i64 r.client, .int .i64 r.number, t, .string ⟨r.data.toArray⟩] 44)) w.heap.size t r := heap_alloc_new w _
theorem RecAt.lt {w : World} {p : Nat} {t : Value} {r : Rec.R} (h : RecAt w p t r) : p < w.heap.size := (Array.getElem?_eq_some_iff.1 h).1
theorem RecAt.ext {w w' : World} {p : Nat} {t : Value} {r : Rec.R} (h : RecAt w p t r) (hE : Ext w w') : RecAt w' p t r := (hE.block p h.lt).trans h
theorem RecAt.but {w w' : World} {p q : Nat} {t : Value} {r : Rec.R} (h : RecAt w p t r) (hB : But q w w') (hne : p ≠ q) : RecAt w' p t r := (hB.block p h.lt hne).trans h
theorem RecAt.cells {w : World} {p : Nat} {t : Value} {r : Rec.R} (h : RecAt w p t r) : w.cell? ⟨p, 0, none⟩ = some (.int .i64 r.client) /\ w.cell? ⟨p, 1, none⟩ = some (.int .i64 r.number) /\ w.cell? ⟨p, 2, none⟩ = some t /\ w.cell? ⟨p, 3, none⟩ = some (.string ⟨r.data.toArray⟩) :=
 ⟨zaa h 0, zaa h 1, zaa h 2, zaa h 3⟩
def zsc : Bool -> Int
 | true => 0
 | false => 40
@[simp] theorem recErr_true : zsc true = 0 := rfl
@[simp] theorem recErr_false : zsc false = 40 := rfl
theorem Yield.ld {P : Program} {o : Oper} {ev : Operand -> Value} {w : World} {R : Value -> World -> Prop} {t : TypeId} {x : Operand} {u v : Value} {w' : World} (ho : o.op = .load t x) (hx : ev x = u) (hr : (Instr.loadAt t u).run P w = .ok v w') (h : R v w') : Yield P o ev w R := by
 unfold Yield execOp
 simp only [ho, hx, Sem.run_bind, hr, Result.andThen_ok, Sem.run_pure]
 exact h
theorem text_le {r : Rec.R} (h : Rec.right r = true) : (Rec.text r).length <= 1132 := by
 have := Rec.enc_le h
 unfold Rec.enc at this
 rw [List.length_append, Crc.low_length] at this
 omega
def noRec : Rec.R := ⟨0, 0, [], []⟩
def RowRec (w : World) (v : Value) (r : Rec.R) : Prop := ∃ t, v = recV t r /\ RowI w t r.tags
theorem RowRec.is {w : World} {v : Value} {r : Rec.R} (h : RowRec w v r) : IsRec w v r := by
 obtain ⟨t, e, h⟩ := h
 exact ⟨t, e, h.ints⟩
def RowF (B : Nat) (w : World) (v : Value) (l : List Int) : Prop := ∃ b n, B <= b /\ w.ownsRow b 3 1 v n (i64s l)
theorem RowF.nil (B : Nat) (w : World) : RowF B w (.slice none 0 0) [] := ⟨B, 0, Nat.le_refl _, World.ownsRow_nil _ _ _ _⟩
theorem RowF.row {B : Nat} {w : World} {v : Value} {l : List Int} (h : RowF B w v l) : RowI w v l := by
 obtain ⟨b, n, _, h⟩ := h
 exact ⟨b, n, h⟩
def RowRecF (B : Nat) (w : World) (v : Value) (r : Rec.R) : Prop := ∃ t, v = recV t r /\ RowF B w t r.tags
theorem RowRecF.row {B : Nat} {w : World} {v : Value} {r : Rec.R} (h : RowRecF B w v r) : RowRec w v r := by
 obtain ⟨t, e, h⟩ := h
 exact ⟨t, e, h.row⟩
theorem zl9 (w : World) : (Instr.build 44 #[]).run Tryz.prog w = .ok (.agg #[.int .i64 0, .int .i64 0, .slice none 0 0, .string ⟨#[]⟩]) w := by kernel_rfl
theorem RecAt.zero (w : World) : RecAt (w.alloc (.cells #[.int .i64 0, .int .i64 0, .slice none 0 0, .string ⟨#[]⟩] 44)) w.heap.size (.slice none 0 0) noRec := by
 unfold RecAt noRec
 exact heap_alloc_new w _
theorem zr1 {w : World} {q : Nat} {x0 x1 x2 x3 : Value} {T : TypeId} (h : w.heap[q]? = some (.cells #[x0, x1, x2, x3] T (0, 0))) (v0 v1 v2 v3 : Value) :
 ((((w.setCell ⟨q, 0, none⟩ v0).setCell ⟨q, 1, none⟩ v1).setCell ⟨q, 2, none⟩ v2).setCell ⟨q, 3, none⟩ v3).heap[q]? = some (.cells #[v0, v1, v2, v3] T (0, 0)) /\ But q w ((((w.setCell ⟨q, 0, none⟩ v0).setCell ⟨q, 1, none⟩ v1).setCell ⟨q, 2, none⟩ v2).setCell ⟨q, 3, none⟩ v3) := by
 refine ⟨?_, ((((But.refl _ _).setCell 0 none v0).setCell 1 none v1).setCell 2 none v2).setCell 3 none v3⟩
 have := heap_setCell (heap_setCell (heap_setCell (heap_setCell h 0 v0) 1 v1) 2 v2) 3 v3
 simpa using this
theorem RecAt.set {w : World} {p : Nat} {t : Value} {r : Rec.R} (h : RecAt w p t r) (t' : Value) (r' : Rec.R) :
 RecAt ((((w.setCell ⟨p, 0, none⟩ (.int .i64 r'.client)).setCell ⟨p, 1, none⟩ (.int .i64 r'.number)).setCell ⟨p, 2, none⟩ t').setCell ⟨p, 3, none⟩ (.string ⟨r'.data.toArray⟩)) p t' r' ∧
 But p w ((((w.setCell ⟨p, 0, none⟩ (.int .i64 r'.client)).setCell ⟨p, 1, none⟩ (.int .i64 r'.number)).setCell ⟨p, 2, none⟩ t').setCell ⟨p, 3, none⟩ (.string ⟨r'.data.toArray⟩)) := zr1 h _ _ _ _
theorem RecAt.tags {w : World} {p : Nat} {t t' : Value} {c n : Int} {ts ts' : List Int} {d : List UInt8} (h : RecAt w p t ⟨c, n, ts, d⟩) : RecAt (w.setCell ⟨p, 2, none⟩ t') p t' ⟨c, n, ts', d⟩ := by
 have := heap_setCell h 2 t'
 unfold RecAt
 simpa using this
theorem RecAt.later {w : World} {p : Nat} {t : Value} {r : Rec.R} {o : Obj} (h : RecAt w p t r) : p <= (w.alloc o).heap.size := by
 have := h.lt
 rw [World.size_alloc]
 omega
theorem RecAt.data {w : World} {p : Nat} {t : Value} {c n : Int} {ts : List Int} {d : List UInt8} (h : RecAt w p t ⟨c, n, ts, d⟩) (d' : List UInt8) : RecAt (w.setCell ⟨p, 3, none⟩ (.string ⟨d'.toArray⟩)) p t ⟨c, n, ts, d'⟩ := by
 have := heap_setCell h 3 (.string ⟨d'.toArray⟩)
 unfold RecAt
 simpa using this
theorem RD.heap {w : World} {p : Nat} {s : Pack.St} (h : RD w p s) : ∃ a n c, w.heap[p]? = some (.cells #[.slice a n c, .int .i64 s.err] 239 (0, 0)) := by
 obtain ⟨a, n, c, h, _⟩ := h
 exact ⟨a, n, c, h⟩
theorem RecAt.name {w : World} {p : Nat} {t : Value} {c n : Int} {ts ts' : List Int} {d : List UInt8} (h : RecAt w p t ⟨c, n, ts, d⟩) : RecAt w p t ⟨c, n, ts', d⟩ := h
theorem zru (a b : List UInt8) : ((⟨a.toArray⟩ : ByteArray) = ⟨b.toArray⟩) ↔ a = b := by
 constructor
 . intro h
   have := congrArg (fun x => x.data.toList) h
   simpa using this
 . rintro rfl; rfl
set_option maxHeartbeats 2000000 in
theorem zpz (v u : Value) (a b : Rec.R) (w : World) (hv : IsRec w v a) (hu : IsRec w u b) :
 Calls Tryz.prog 93 #[v, u] w fun e w' => e = .returned (.bool (Rec.same a b)) /\ Ext w w' := by
 have hbx := zpa
 obtain ⟨t, rfl, ht⟩ := hv
 obtain ⟨t2, rfl, ht2⟩ := hu
 obtain ⟨c, n, ts, d⟩ := a
 obtain ⟨c2, n2, ts2, d2⟩ := b
 unfold recV at *
 simp only at ht ht2 ⊢
 obtain ⟨a1, cap1, rfl, hcap1, hmax1, _, _⟩ := ht.open
 obtain ⟨a2, cap2, rfl, hcap2, hmax2, _, _⟩ := ht2.open
 unfold maxLen at hmax1 hmax2
 have HT := Hi ht
 have HT2 := Hi ht2
 clear ht ht2
 have hE : Ext w ((w.alloc (.cells #[.int .i64 c, .int .i64 n, .slice a1 ts.length cap1, .string ⟨d.toArray⟩] 44)).alloc (.cells #[.int .i64 c2, .int .i64 n2, .slice a2 ts2.length cap2, .string ⟨d2.toArray⟩] 44)) := zf3 _ _ _
 have HH := Hi (zev w (.cells #[.int .i64 c, .int .i64 n, .slice a1 ts.length cap1, .string ⟨d.toArray⟩] 44) (.cells #[.int .i64 c2, .int .i64 n2, .slice a2 ts2.length cap2, .string ⟨d2.toArray⟩] 44))
 by_cases h1 : c = c2
 . subst h1
   by_cases h2 : n = n2
   . subst h2
     have e0 := Hi (show Rec.same ⟨c, n, ts, d⟩ ⟨c, n, ts2, d2⟩ = ((ts == ts2) && (d == d2)) by unfold Rec.same; simp)
     cases h3 : (ts == ts2) with
     | false =>
      rw [h3] at e0
      have H3 := Hi h3
      clear h3
      go_enter Tryz.func93, Tryz.ntmps93
      go_wp2_with fail
      refine (zbd _ _ ts ts2 _ (HT.out.below hE) (HT2.out.below hE)).mono ?_
      rw [H3.out]
      rintro e w3 ⟨rfl, hE3⟩
      go_wp2_with fail
      go_ret
      exact ⟨by rw [e0.out]; rfl, hE.trans hE3⟩
     | true =>
      rw [h3] at e0
      have H3 := Hi h3
      have hd := zru d d2
      clear h3
      go_enter Tryz.func93, Tryz.ntmps93
      go_wp2_with fail
      refine (zbd _ _ ts ts2 _ (HT.out.below hE) (HT2.out.below hE)).mono ?_
      rw [H3.out]
      rintro e w3 ⟨rfl, hE3⟩
      have z1 := zaa (zad HH.out.1 hE3) 3
      have z2 := zaa (zad HH.out.2 hE3) 3
      simp at z1 z2
      go_wp2_with fail
      go_ret
      exact ⟨by rw [e0.out]; rfl, hE.trans hE3⟩
   . have e := Hi (show Rec.same ⟨c, n, ts, d⟩ ⟨c, n2, ts2, d2⟩ = false by unfold Rec.same; simp [h2])
     go_enter Tryz.func93, Tryz.ntmps93
     go_wp2_with fail
     go_ret
     exact ⟨by rw [e.out]; rfl, hE⟩
 . have e := Hi (show Rec.same ⟨c, n, ts, d⟩ ⟨c2, n2, ts2, d2⟩ = false by unfold Rec.same; simp [h1])
   go_enter Tryz.func93, Tryz.ntmps93
   go_wp2_with fail
   go_ret
   exact ⟨by rw [e.out]; rfl, hE⟩
end Go.Proofs.YtnoeconcpgdjlaaGreat
namespace Go.Proofs.YtnoeconcpgdjlaaGreat
set_option maxRecDepth 100000
open Go.ChangeShapes Go.WideShapes Go.ChangeAt Go.RowKit
section
variable {H : Type} {enc : TypeId × Value -> H} {w : World} {base : Nat} {spare : Nat -> Bool} {held : Bool}
end
end Go.Proofs.YtnoeconcpgdjlaaGreat
namespace Go.Proofs.YtnoeconcpgdjlaaGreat
set_option maxRecDepth 100000
open Go.RowKit
theorem RecAt.client {w : World} {p : Nat} {t : Value} {c c' n : Int} {ts : List Int} {d : List UInt8} (h : RecAt w p t ⟨c, n, ts, d⟩) : RecAt (w.setCell ⟨p, 0, none⟩ (.int .i64 c')) p t ⟨c', n, ts, d⟩ := by
 have := heap_setCell h 0 (.int .i64 c')
 unfold RecAt
 simpa using this
theorem RecAt.number {w : World} {p : Nat} {t : Value} {c n n' : Int} {ts : List Int} {d : List UInt8} (h : RecAt w p t ⟨c, n, ts, d⟩) : RecAt (w.setCell ⟨p, 1, none⟩ (.int .i64 n')) p t ⟨c, n', ts, d⟩ := by
 have := heap_setCell h 1 (.int .i64 n')
 unfold RecAt
 simpa using this
def RecHere (w : World) (b o : Nat) (r : Rec.R) : Prop :=
 ∃ t, w.cell? ⟨b, o, none⟩ = some (.int .i64 r.client) /\ w.cell? ⟨b, o + 1, none⟩ = some (.int .i64 r.number) /\ w.cell? ⟨b, o + 2, none⟩ = some t /\ w.cell? ⟨b, o + 3, none⟩ = some (.string ⟨r.data.toArray⟩) /\ Ints w t r.tags
theorem RecHere.below {w w' : World} {b o : Nat} {r : Rec.R} (h : RecHere w b o r) (hb : Below w.heap.size w w') : RecHere w' b o r := by
 obtain ⟨t, h1, h2, h3, h4, h5⟩ := h
 have key : ∀ i, w'.cell? ⟨b, i, none⟩ = w.cell? ⟨b, i, none⟩ := fun i => World.cell?_of_block (w := w) (hb.block b (World.block_lt_of_cell? w _ h1))
 exact ⟨t, (key _).trans h1, (key _).trans h2, (key _).trans h3, (key _).trans h4, h5.below hb⟩
def Recs (w : World) (v : Value) (l : List Rec.R) : Prop :=
 ∃ (a : Option Addr) (cap : Nat), v = .slice a l.length cap /\ l.length <= cap /\ cap <= maxLen /\ (a = none -> cap = 0) /\ ∀ i (h : i < l.length), ∃ b off, a = some ⟨b, off, none⟩ /\ RecHere w b (off + i * 4) l[i]
theorem Recs.below {w w' : World} {v : Value} {l : List Rec.R} (h : Recs w v l) (hb : Below w.heap.size w w') : Recs w' v l := by
 obtain ⟨a, cap, rfl, h1, h2, h4, h3⟩ := h
 refine ⟨a, cap, rfl, h1, h2, h4, fun i hi => ?_⟩
 obtain ⟨b, off, e, hc⟩ := h3 i hi
 exact ⟨b, off, e, hc.below hb⟩
def zst (ps : List (Value × Rec.R)) : List Value := ps.flatMap fun p => [.int .i64 p.2.client, .int .i64 p.2.number, p.1, .string ⟨p.2.data.toArray⟩]
theorem IsRec.shape {w : World} {v : Value} {r : Rec.R} (h : IsRec w v r) : ∃ a n c, v = .agg #[.int .i64 r.client, .int .i64 r.number, .slice a n c, .string ⟨r.data.toArray⟩] := by
 obtain ⟨t, rfl, ht⟩ := h
 obtain ⟨a, c, rfl, _⟩ := ht.open
 exact ⟨_, _, _, rfl⟩
theorem ztp {w : World} {p : Nat} {x0 x1 x2 x3 : Value} {T : TypeId} {fr : Nat × Nat} (h : w.heap[p]? = some (.cells #[x0, x1, x2, x3] T fr)) : w.cell? ⟨p, 0, none⟩ = some x0 /\ w.cell? ⟨p, 1, none⟩ = some x1 /\ w.cell? ⟨p, 2, none⟩ = some x2 /\ w.cell? ⟨p, 3, none⟩ = some x3 :=
 ⟨zaa h 0, zaa h 1, zaa h 2, zaa h 3⟩
end Go.Proofs.YtnoeconcpgdjlaaGreat
namespace Go.Proofs.YtnoeconcpgdjlaaGreat
set_option maxRecDepth 100000
open Go.ChangeShapes Go.WideShapes Go.ChangeAt Go.RowKit
section
variable {H : Type} {enc : TypeId × Value -> H} {w : World} {base : Nat} {spare : Nat -> Bool} {held : Bool}
end
end Go.Proofs.YtnoeconcpgdjlaaGreat
