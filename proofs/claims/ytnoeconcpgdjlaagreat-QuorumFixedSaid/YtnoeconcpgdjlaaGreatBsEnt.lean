import Derived.Deep.RegionLaw
import Derived.Test.YtnoeconcpgdjlaaGreatBsCrcPut
import Derived.Test.YtnoeconcpgdjlaaGreatBsCrcRef
import Derived.Test.YtnoeconcpgdjlaaGreatBsLib
import Derived.Test.YtnoeconcpgdjlaaGreatBsLibW
import Derived.Test.YtnoeconcpgdjlaaGreatBsMath
import Derived.Test.YtnoeconcpgdjlaaGreatBsPack
import Derived.Test.YtnoeconcpgdjlaaGreatBsVec
set_option linter.unusedSimpArgs false
set_option linter.unusedVariables false
namespace Go.Proofs.YtnoeconcpgdjlaaGreat.Ent
def vd (l : List UInt8) : List Int := zfq (decOk l) (decS l).2
theorem zjj (v : List Int) : vecBytes v = Vec.enc v := rfl
theorem zpn (v : List Int) (h : Vec.right v = true) : vd (vecBytes v) = v := by
 rw [zjj]
 unfold vd
 rw [(Go.Proofs.YtnoeconcpgdjlaaGreat.dec_enc h).1, (Go.Proofs.YtnoeconcpgdjlaaGreat.dec_enc h).2, orNone_true]
theorem dec_vd_iff {b : List UInt8} {e : E} : dec vd b = some e ↔ right e = true /\ enc e = b := dec_iff zpn
end Go.Proofs.YtnoeconcpgdjlaaGreat.Ent
namespace Go.Proofs.YtnoeconcpgdjlaaGreat
set_option maxRecDepth 100000
open Go.RowKit
def entV (t : Value) (e : Ent.E) : Value := .agg #[.int .i64 e.number, .int .i64 e.kind, t, .int .i64 e.tag, .int .i64 e.term, .int .i64 e.pos]
def IsEnt (w : World) (v : Value) (e : Ent.E) : Prop := ∃ t, v = entV t e /\ Ints w t e.cut
theorem IsEnt.below {w w' : World} {v : Value} {e : Ent.E} (h : IsEnt w v e) (hb : Below w.heap.size w w') : IsEnt w' v e := by
 obtain ⟨t, rfl, h⟩ := h
 exact ⟨t, rfl, h.below hb⟩
theorem IsEnt.shape {w : World} {v : Value} {e : Ent.E} (h : IsEnt w v e) : ∃ a n c, v = .agg #[.int .i64 e.number, .int .i64 e.kind, .slice a n c, .int .i64 e.tag, .int .i64 e.term, .int .i64 e.pos] := by
 obtain ⟨t, rfl, ht⟩ := h
 obtain ⟨a, c, rfl, _⟩ := ht.open
 exact ⟨_, _, _, rfl⟩
def EntAt (T : TypeId) (w : World) (p : Nat) (t : Value) (e : Ent.E) : Prop := w.heap[p]? = some (.cells #[.int .i64 e.number, .int .i64 e.kind, t, .int .i64 e.tag, .int .i64 e.term, .int .i64 e.pos] T (0, 0))
theorem EntAt.new (T : TypeId) (w : World) (t : Value) (e : Ent.E) : EntAt T (w.alloc (.cells #[.int .i64 e.number, .int .i64 e.kind, t, .int .i64 e.tag, .int .i64 e.term, .int .i64 e.pos] T)) w.heap.size t e := heap_alloc_new w _
theorem EntAt.lt {T : TypeId} {w : World} {p : Nat} {t : Value} {e : Ent.E} (h : EntAt T w p t e) : p < w.heap.size := (Array.getElem?_eq_some_iff.1 h).1
theorem EntAt.ext {T : TypeId} {w w' : World} {p : Nat} {t : Value} {e : Ent.E} (h : EntAt T w p t e) (hE : Ext w w') : EntAt T w' p t e := (hE.block p h.lt).trans h
theorem EntAt.but {T : TypeId} {w w' : World} {p q : Nat} {t : Value} {e : Ent.E} (h : EntAt T w p t e) (hB : But q w w') (hne : p ≠ q) : EntAt T w' p t e := (hB.block p h.lt hne).trans h
theorem EntAt.cells {T : TypeId} {w : World} {p : Nat} {t : Value} {e : Ent.E} (h : EntAt T w p t e) : w.cell? ⟨p, 0, none⟩ = some (.int .i64 e.number) /\ w.cell? ⟨p, 1, none⟩ = some (.int .i64 e.kind) /\ w.cell? ⟨p, 2, none⟩ = some t /\ w.cell? ⟨p, 3, none⟩ = some (.int .i64 e.tag) /\ w.cell? ⟨p, 4, none⟩ = some (.int .i64 e.term) /\ w.cell? ⟨p, 5, none⟩ = some (.int .i64 e.pos) :=
 ⟨zaa h 0, zaa h 1, zaa h 2, zaa h 3, zaa h 4, zaa h 5⟩
theorem zho (w : World) (n k t m p : Int) (v : Value) : (Instr.box 84 (.agg #[.int .i64 n, .int .i64 k, v, .int .i64 t, .int .i64 m, .int .i64 p])).run Tryz.prog w = .ok (.pointer (some ⟨w.heap.size, 0, none⟩)) (w.alloc (.cells #[.int .i64 n, .int .i64 k, v, .int .i64 t, .int .i64 m, .int .i64 p] 84)) := by kernel_rfl
theorem zqk (w : World) (n k t m p : Int) (v : Value) : (Instr.box 46 (.agg #[.int .i64 n, .int .i64 k, v, .int .i64 t, .int .i64 m, .int .i64 p])).run Tryz.prog w = .ok (.pointer (some ⟨w.heap.size, 0, none⟩)) (w.alloc (.cells #[.int .i64 n, .int .i64 k, v, .int .i64 t, .int .i64 m, .int .i64 p] 46)) := by kernel_rfl
theorem zlz (w : World) : (Instr.build 40 #[]).run Tryz.prog w = .ok (.agg #[.int .i64 0, .int .i64 0]) w := by kernel_rfl
set_option maxHeartbeats 1000000 in
theorem zaq (n a b : Int) (w : World) : Calls Tryz.prog 114 #[.int .i64 n, .int .i64 a, .int .i64 b] w fun e w' => e = .returned (.bool (decide (a <= n /\ n <= b))) /\ w = w' := by
 by_cases h0 : a <= n
 . by_cases h1 : n <= b
   . have e : decide (a <= n /\ n <= b) = true := by simp [h0, h1]
     rw [e]
     clear e
     go_enter Tryz.func114, Tryz.ntmps114
     go_wp2
     go_ret
     exact ⟨rfl, rfl⟩
   . have e : decide (a <= n /\ n <= b) = false := by simp [h1]
     rw [e]
     clear e
     go_enter Tryz.func114, Tryz.ntmps114
     go_wp2
     go_ret
     exact ⟨rfl, rfl⟩
 . have e : decide (a <= n /\ n <= b) = false := by simp [h0]
   rw [e]
   clear e
   go_enter Tryz.func114, Tryz.ntmps114
   go_wp2
   go_ret
   exact ⟨rfl, rfl⟩
theorem Ent.right_no {n k : Int} {c : List Int} {t m p : Int} (h : decide (1 <= n /\ n <= 1099511627776) = false) : Ent.right ⟨n, k, c, t, m, p⟩ = false := by
 unfold Ent.right; simp only [h, Bool.false_and]
theorem Ent.right_one {n : Int} {c : List Int} {t m p : Int} (h : decide (1 <= n /\ n <= 1099511627776) = true) : Ent.right ⟨n, 1, c, t, m, p⟩ = (Vec.right c && decide (t = 0 /\ m = 0 /\ p = 0)) := by
 unfold Ent.right Ent.rightCut Ent.rightTrim; simp only [h]; simp
theorem Ent.right_two {n : Int} {c : List Int} {t m p : Int} (h : decide (1 <= n /\ n <= 1099511627776) = true) : Ent.right ⟨n, 2, c, t, m, p⟩ = (c.isEmpty && (decide (0 <= t /\ t <= 1073741824) && (decide (1 <= m /\ m <= 64) && decide (0 <= p /\ p <= 1099511627776)))) := by
 unfold Ent.right Ent.rightCut Ent.rightTrim; simp only [h]; simp
theorem Ent.right_other {n k : Int} {c : List Int} {t m p : Int} (h1 : k ≠ 1) (h2 : k ≠ 2) : Ent.right ⟨n, k, c, t, m, p⟩ = false := by
 unfold Ent.right; simp [h1, h2]
theorem zfn (c : List Int) : c.isEmpty = decide ((c.length : Int) = 0) := by
 cases c with
 | nil => rfl
 | cons x c => simp; omega
set_option maxHeartbeats 4000000 in
theorem zbg (v : Value) (e : Ent.E) (w : World) (hv : IsEnt w v e) :
 Calls Tryz.prog 87 #[v] w fun x w' => x = .returned (.bool (Ent.right e)) /\ Ext w w' := by
 have hbx := zho
 have hb0 := zlz
 obtain ⟨u, rfl, hu⟩ := hv
 obtain ⟨n, k, c, t, m, p⟩ := e
 unfold entV
 simp only at hu ⊢
 have HU := Hi hu
 obtain ⟨a, cap, rfl, hcap, hmax, _, _⟩ := hu.open
 unfold maxLen at hmax
 clear hu
 have hE0 : Ext w (w.alloc (.cells #[.int .i64 n, .int .i64 k, .slice a c.length cap, .int .i64 t, .int .i64 m, .int .i64 p] 84)) := Ext.alloc _ _
 cases hn : decide (1 <= n /\ n <= 1099511627776) with
 | false =>
  have HN := Hi hn
  have HR := Hi (Ent.right_no (k := k) (c := c) (t := t) (m := m) (p := p) hn)
  clear hn
  go_enter Tryz.func87, Tryz.ntmps87
  go_wp2_with fail
  refine (zaq _ _ _ _).mono ?_
  rw [HN.out]
  rintro e w1 ⟨rfl, rfl⟩
  go_wp2_with fail
  go_ret
  exact ⟨by rw [HR.out]; rfl, hE0⟩
 | true =>
  by_cases k1 : k = 1
  . subst k1
    have HN := Hi hn
    have HR := Hi (Ent.right_one (c := c) (t := t) (m := m) (p := p) hn)
    clear hn
    cases hv : Vec.right c with
    | false =>
     have HV := Hi hv
     clear hv
     go_enter Tryz.func87, Tryz.ntmps87
     go_wp2_with fail
     refine (zaq _ _ _ _).mono ?_
     rw [HN.out]
     rintro e w1 ⟨rfl, rfl⟩
     go_wp2_with fail
     refine (zbs _ c _ (HU.out.below hE0)).mono ?_
     rw [HV.out]
     rintro e w1 ⟨rfl, rfl⟩
     go_wp2_with fail
     go_ret
     exact ⟨by rw [HR.out, HV.out]; rfl, hE0⟩
    | true =>
     have HV := Hi hv
     clear hv
     by_cases t0 : t = 0
     . by_cases m0 : m = 0
       . by_cases p0 : p = 0
         . subst t0 m0 p0
           replace HR := Hi (show Ent.right ⟨n, 1, c, 0, 0, 0⟩ = true by rw [HR.out, HV.out]; rfl)
           go_enter Tryz.func87, Tryz.ntmps87
           go_wp2_with fail
           refine (zaq _ _ _ _).mono ?_
           rw [HN.out]
           rintro e w1 ⟨rfl, rfl⟩
           go_wp2_with fail
           refine (zbs _ c _ (HU.out.below hE0)).mono ?_
           rw [HV.out]
           rintro e w1 ⟨rfl, rfl⟩
           go_wp2_with fail
           go_ret
           exact ⟨by rw [HR.out]; rfl, hE0⟩
         . subst t0 m0
           replace HR := Hi (show Ent.right ⟨n, 1, c, 0, 0, p⟩ = false by rw [HR.out, HV.out]; simp [p0])
           go_enter Tryz.func87, Tryz.ntmps87
           go_wp2_with fail
           refine (zaq _ _ _ _).mono ?_
           rw [HN.out]
           rintro e w1 ⟨rfl, rfl⟩
           go_wp2_with fail
           refine (zbs _ c _ (HU.out.below hE0)).mono ?_
           rw [HV.out]
           rintro e w1 ⟨rfl, rfl⟩
           go_wp2_with fail
           go_ret
           exact ⟨by rw [HR.out]; rfl, hE0⟩
       . subst t0
         replace HR := Hi (show Ent.right ⟨n, 1, c, 0, m, p⟩ = false by rw [HR.out, HV.out]; simp [m0])
         go_enter Tryz.func87, Tryz.ntmps87
         go_wp2_with fail
         refine (zaq _ _ _ _).mono ?_
         rw [HN.out]
         rintro e w1 ⟨rfl, rfl⟩
         go_wp2_with fail
         refine (zbs _ c _ (HU.out.below hE0)).mono ?_
         rw [HV.out]
         rintro e w1 ⟨rfl, rfl⟩
         go_wp2_with fail
         go_ret
         exact ⟨by rw [HR.out]; rfl, hE0⟩
     . replace HR := Hi (show Ent.right ⟨n, 1, c, t, m, p⟩ = false by rw [HR.out, HV.out]; simp [t0])
       go_enter Tryz.func87, Tryz.ntmps87
       go_wp2_with fail
       refine (zaq _ _ _ _).mono ?_
       rw [HN.out]
       rintro e w1 ⟨rfl, rfl⟩
       go_wp2_with fail
       refine (zbs _ c _ (HU.out.below hE0)).mono ?_
       rw [HV.out]
       rintro e w1 ⟨rfl, rfl⟩
       go_wp2_with fail
       go_ret
       exact ⟨by rw [HR.out]; rfl, hE0⟩
  . by_cases k2 : k = 2
    . subst k2
      have HN := Hi hn
      have HR := Hi (Ent.right_two (c := c) (t := t) (m := m) (p := p) hn)
      clear hn
      by_cases hc : (c.length : Int) = 0
      . have HC := Hi (show c.isEmpty = true by rw [zfn]; simpa using hc)
        cases ht : decide (0 <= t /\ t <= 1073741824) with
        | false =>
         rw [HC.out, ht] at HR
         have HT := Hi ht
         clear ht
         go_enter Tryz.func87, Tryz.ntmps87
         go_wp2_with fail
         refine (zaq _ _ _ _).mono ?_
         rw [HN.out]
         rintro e w1 ⟨rfl, rfl⟩
         go_wp2_with fail
         refine (zaq _ _ _ _).mono ?_
         rw [HT.out]
         rintro e w1 ⟨rfl, rfl⟩
         go_wp2_with fail
         go_ret
         exact ⟨by rw [HR.out]; rfl, hE0⟩
        | true =>
         cases hm : decide (1 <= m /\ m <= 64) with
         | false =>
          rw [HC.out, ht, hm] at HR
          have HT := Hi ht
          have HM := Hi hm
          clear ht hm
          go_enter Tryz.func87, Tryz.ntmps87
          go_wp2_with fail
          refine (zaq _ _ _ _).mono ?_
          rw [HN.out]
          rintro e w1 ⟨rfl, rfl⟩
          go_wp2_with fail
          refine (zaq _ _ _ _).mono ?_
          rw [HT.out]
          rintro e w1 ⟨rfl, rfl⟩
          go_wp2_with fail
          refine (zaq _ _ _ _).mono ?_
          rw [HM.out]
          rintro e w1 ⟨rfl, rfl⟩
          go_wp2_with fail
          go_ret
          exact ⟨by rw [HR.out]; rfl, hE0⟩
         | true =>
          rw [HC.out, ht, hm] at HR
          have HT := Hi ht
          have HM := Hi hm
          clear ht hm
          go_enter Tryz.func87, Tryz.ntmps87
          go_wp2_with fail
          refine (zaq _ _ _ _).mono ?_
          rw [HN.out]
          rintro e w1 ⟨rfl, rfl⟩
          go_wp2_with fail
          refine (zaq _ _ _ _).mono ?_
          rw [HT.out]
          rintro e w1 ⟨rfl, rfl⟩
          go_wp2_with fail
          refine (zaq _ _ _ _).mono ?_
          rw [HM.out]
          rintro e w1 ⟨rfl, rfl⟩
          go_wp2_with fail
          refine (zaq _ _ _ _).mono ?_
          generalize decide (0 <= p /\ p <= 1099511627776) = dp at *
          rintro e w1 ⟨rfl, rfl⟩
          cases dp <;> (go_wp2_with fail; go_ret; exact ⟨by rw [HR.out]; rfl, hE0⟩)
      . have HC := Hi (show c.isEmpty = false by rw [zfn]; simpa using hc)
        rw [HC.out] at HR
        have hcb : ((c.length : Int) == 0) = false := by simpa using hc
        go_enter Tryz.func87, Tryz.ntmps87
        go_wp2_with fail
        refine (zaq _ _ _ _).mono ?_
        rw [HN.out]
        rintro e w1 ⟨rfl, rfl⟩
        go_wp2_with fail
        go_ret
        exact ⟨by rw [HR.out]; rfl, hE0⟩
    . have HN := Hi hn
      have HR := Hi (Ent.right_other (n := n) (c := c) (t := t) (m := m) (p := p) k1 k2)
      clear hn
      go_enter Tryz.func87, Tryz.ntmps87
      go_wp2_with fail
      refine (zaq _ _ _ _).mono ?_
      rw [HN.out]
      rintro e w1 ⟨rfl, rfl⟩
      go_wp2_with fail
      go_ret
      exact ⟨by rw [HR.out]; rfl, hE0⟩
def zle (w : World) (e : Ent.E) (x : Ending) (w' : World) : Prop := ∃ u, x = .returned (.tuple #[u, .int .i64 0]) /\ w'.ownsRow w.heap.size 5 1 u (Ent.enc e).length (u8s (Ent.enc e)) /\ Ext w w'
theorem zlh (w : World) (x y : Int) : Ints (w.alloc (.cells #[.int .i64 x, .int .i64 y] 3)) (.slice (some ⟨w.heap.size, 0, none⟩) 2 2) [x, y] :=
 Sl.made w (i64s [x, y]) 3 2 (by simp) (by simp [maxLen]) (fr := (0, 0))
theorem zre (w : World) (x y z : Int) : Ints (w.alloc (.cells #[.int .i64 x, .int .i64 y, .int .i64 z] 3)) (.slice (some ⟨w.heap.size, 0, none⟩) 3 3) [x, y, z] :=
 Sl.made w (i64s [x, y, z]) 3 3 (by simp) (by simp [maxLen]) (fr := (0, 0))
theorem Ent.text_one {e : Ent.E} (h : e.kind = 1) : Ent.text e = nums [e.number, e.kind] ++ (Pack.num (Ent.vecBytes e.cut).length ++ Ent.vecBytes e.cut) := by
 unfold Ent.text; rw [Ent.body_one h]; simp [nums]
theorem Ent.text_two {e : Ent.E} (h : e.kind ≠ 1) : Ent.text e = nums [e.number, e.kind] ++ nums [e.tag, e.term, e.pos] := by
 unfold Ent.text; rw [Ent.body_two h]; simp [nums]
theorem Ent.text_le {e : Ent.E} (h : Ent.right e = true) : (Ent.text e).length <= 108 := by
 have := Ent.enc_le h
 unfold Ent.enc at this
 rw [List.length_append, Crc.low_length] at this
 omega
set_option maxHeartbeats 4000000 in
theorem zjv (v : Value) (e : Ent.E) (w : World) (hv : IsEnt w v e) (hr : Ent.right e = true) : Calls Tryz.prog 112 #[v] w (zle w e) := by
 have hbx := zho
 have hr5 := fun w1 hv => zbg v e w1 hv
 have HV := Hi hv
 obtain ⟨u, rfl, hu⟩ := hv
 obtain ⟨n, k, c, t, m, p⟩ := e
 unfold entV at *
 simp only at hu hr5 ⊢
 obtain ⟨a, cap, rfl, hcap, hmax, _, _⟩ := hu.open
 unfold maxLen at hmax
 have HU := Hi hu
 clear hu
 have hE0 : Ext w (w.alloc (.cells #[.int .i64 n, .int .i64 k, .slice a c.length cap, .int .i64 t, .int .i64 m, .int .i64 p] 84)) := Ext.alloc _ _
 have HA0 := Hi (EntAt.new 84 w (.slice a c.length cap) ⟨n, k, c, t, m, p⟩)
 unfold zle
 have HR := Hi hr
 obtain ⟨q1, q2⟩ := Ent.right_ok hr
 simp only at q1 q2
 have hk : 0 <= k /\ k <= 2 := by rcases q2 with ⟨h, _⟩ | ⟨h, _⟩ <;> omega
 have hall1 : [n, k].all okNum = true := by
  simp only [List.all_cons, List.all_nil, Bool.and_true]
  rw [zd9 (by omega), zd9 (by omega)]
  rfl
 have hl1 := zju _ hall1
 simp only [List.length_cons, List.length_nil] at hl1
 have HA1 := Hi hall1
 have HL1 := Hi hl1
 have HTL := Hi (Ent.text_le hr)
 clear hr hall1 hl1
 rcases q2 with ⟨rfl, v1, t1, t2, t3⟩ | ⟨rfl, v1, t1, t2, t3⟩
 . subst t1 t2 t3
   have HT := Hi (Ent.text_one (e := ⟨n, 1, c, 0, 0, 0⟩) rfl)
   have HVL := Hi (Ent.vecBytes_le v1)
   have HV1 := Hi v1
   clear v1
   go_enter Tryz.func112, Tryz.ntmps112
   go_wp2_with fail
   refine (hr5 _ (HV.out.below hE0)).mono ?_
   rw [HR.out]
   rintro e w1 ⟨rfl, hE1⟩
   have a1 := Hi (HA0.out.ext hE1)
   obtain ⟨c0, c1, c2, c3, c4, c5⟩ := a1.out.cells
   have e1 := hE0.trans hE1
   go_wp2_with fail
   refine (zb4 (.slice none 0 0) _ [] [n, 1] _ (zbo _) (zlh w1 _ _) (by simp) (by simp)).mono ?_
   rw [HA1.out, if_pos rfl, List.nil_append]
   rintro e w2 ⟨v2, rfl, ho2, hE2⟩
   have hE2' : Ext w1 w2 := (Ext.alloc _ _).trans hE2
   have a2 := Hi (a1.out.ext hE2')
   clear c0 c1 c2 c3 c4 c5
   obtain ⟨c0, c1, c2, c3, c4, c5⟩ := a2.out.cells
   have e2 := e1.trans hE2'
   go_wp2_with fail
   refine (zml _ c _ (HU.out.below e2)).mono ?_
   unfold zla
   rw [HV1.out, bytesOr_true]
   rintro e w3 ⟨v3, rfl, hb3, hE3⟩
   have e3 := e2.trans hE3
   have hb2 := ho2.bytes.below hE3
   have hst := zk0 (P := Tryz.prog) 141 9 5 Tryz.underlying141 Tryz.underlying5 Tryz.underlying9 hb3
   obtain ⟨a3, n3, k3, rfl⟩ := hb3.isSlice
   clear c0 c1 c2 c3 c4 c5
   go_wp2_with fail
   refine (zja v2 _ (Ent.vecBytes c) _ hb2 (by have := HL1.out; omega) (by have := HVL.out; omega)).mono ?_
   rw [if_pos (by have := HVL.out; omega), <- HT.out]
   rintro e w4 ⟨v4, rfl, ho4, hE4⟩
   have e4 := e3.trans hE4
   go_wp2_with fail
   refine (zhd _).mono ?_
   rintro e w5 ⟨rfl, ht5, hE5⟩
   have e5 := e4.trans hE5
   go_wp2_with fail
   refine (zk3 _ 0 0 v4 _ _ ht5 (.inl rfl) (ho4.bytes.below hE5) (by have := HTL.out; omega)).mono ?_
   rintro e w6 ⟨v6, d6, rfl, ho6, hB6, hd6, ht6⟩
   have e6 : Ext w w6 := Below.trans (B := w.heap.size) e5 (hB6.below e4.size (Nat.le_trans e4.size hE5.size))
   go_wp2_with fail
   go_ret2
   refine ⟨_, rfl, ?_, e6⟩
   unfold Ent.enc
   exact zaw ho6 e5.size
 . subst v1
   have HT := Hi (Ent.text_two (e := ⟨n, 2, [], t, m, p⟩) (show (2 : Int) ≠ 1 by decide))
   have hall2 : [t, m, p].all okNum = true := by
    simp only [List.all_cons, List.all_nil, Bool.and_true]
    rw [zd9 (by omega), zd9 (by omega), zd9 (by omega)]
    rfl
   have HA2 := Hi hall2
   clear hall2
   go_enter Tryz.func112, Tryz.ntmps112
   go_wp2_with fail
   refine (hr5 _ (HV.out.below hE0)).mono ?_
   rw [HR.out]
   rintro e w1 ⟨rfl, hE1⟩
   have a1 := Hi (HA0.out.ext hE1)
   obtain ⟨c0, c1, c2, c3, c4, c5⟩ := a1.out.cells
   have e1 := hE0.trans hE1
   go_wp2_with fail
   refine (zb4 (.slice none 0 0) _ [] [n, 2] _ (zbo _) (zlh w1 _ _) (by simp) (by simp)).mono ?_
   rw [HA1.out, if_pos rfl, List.nil_append]
   rintro e w2 ⟨v2, rfl, ho2, hE2⟩
   have hE2' : Ext w1 w2 := (Ext.alloc _ _).trans hE2
   have a2 := Hi (a1.out.ext hE2')
   clear c0 c1 c2 c3 c4 c5
   obtain ⟨c0, c1, c2, c3, c4, c5⟩ := a2.out.cells
   have e2 := e1.trans hE2'
   have hb2 := Hi (ho2.bytes.below (Ext.alloc w2 (.cells #[.int .i64 t, .int .i64 m, .int .i64 p] 3)))
   go_wp2_with fail
   refine (zb4 v2 _ _ [t, m, p] _ hb2.out (zre w2 _ _ _) (by have := HL1.out; omega) (by simp)).mono ?_
   rw [HA2.out, if_pos rfl, <- HT.out]
   rintro e w4 ⟨v4, rfl, ho4, hE4⟩
   have e4 := e2.trans ((Ext.alloc _ _).trans hE4)
   clear c0 c1 c2 c3 c4 c5
   go_wp2_with fail
   refine (zhd _).mono ?_
   rintro e w5 ⟨rfl, ht5, hE5⟩
   have e5 := e4.trans hE5
   go_wp2_with fail
   refine (zk3 _ 0 0 v4 _ _ ht5 (.inl rfl) (ho4.bytes.below hE5) (by have := HTL.out; omega)).mono ?_
   rintro e w6 ⟨v6, d6, rfl, ho6, hB6, hd6, ht6⟩
   have e6 : Ext w w6 := Below.trans (B := w.heap.size) e5 (hB6.below e4.size (Nat.le_trans e4.size hE5.size))
   go_wp2_with fail
   go_ret2
   refine ⟨_, rfl, ?_, e6⟩
   unfold Ent.enc
   exact zaw ho6 e5.size
end Go.Proofs.YtnoeconcpgdjlaaGreat
namespace Go.Proofs.YtnoeconcpgdjlaaGreat
namespace Ent
theorem zh8 (s : Pack.St) (k : Nat) : zbc s k = Rec.readsM 1099511627776 s k := by
 induction k with
 | zero => rfl
 | succ k ih => simp only [zbc, Rec.readsM, ih]
theorem zts {l : List UInt8} (h : decOk l = true) : vecBytes (vd l) = l := by
 have hok := h
 unfold decOk at h
 rw [Bool.and_eq_true, beq_iff_eq, decide_eq_true_eq] at h
 obtain ⟨h1, h2⟩ := h
 obtain ⟨d1, d2⟩ := Rec.done_zero h2
 have e0 : (Rec.readsM 1099511627776 (Pack.St.num ⟨l, 0⟩ 8).1 (decN l)).1.err = 0 := by rw [<- zh8]; exact d2
 have e1 := Rec.reads_err _ e0
 have l1 := Rec.num_left (s := ⟨l, 0⟩) (most := 8) e1
 have l2 := Rec.reads_left _ e0
 rw [<- zh8] at l2
 have hn : (decS l).2.length = decN l := zc2 _ _
 unfold vd vecBytes
 rw [hok, orNone_true, hn]
 have l2' : (Pack.St.num ⟨l, 0⟩ 8).1.left = Rec.numsOf (decS l).2 := by
  rw [l2]
  show Rec.numsOf (decS l).2 ++ (decS l).1.left = _
  rw [d1, List.append_nil]
 rw [<- l2']
 exact l1.symm
theorem zgd {l : List UInt8} (h : Vec.right (vd l) = true) : decOk l = true := by
 cases hd : decOk l with
 | true => rfl
 | false =>
  exfalso
  unfold vd at h
  rw [hd, orNone_false] at h
  have := (Vec.right_ok h).2.1
  simp at this
def pA (l : List UInt8) : Pack.St × Nat := Pack.St.num ⟨l, 0⟩ 1099511627776
def pB (l : List UInt8) : Pack.St × Nat := (pA l).1.num 2
def pV (l : List UInt8) : Pack.St × List UInt8 := (pB l).1.text 65536
def pT (l : List UInt8) : Pack.St × Nat := (pB l).1.num 1073741824
def pM (l : List UInt8) : Pack.St × Nat := (pT l).1.num 64
def pP (l : List UInt8) : Pack.St × Nat := (pM l).1.num 1099511627776
def pread (l : List UInt8) : Pack.St × E :=
 if (pB l).2 = 1 then ((pV l).1, ⟨(pA l).2, 1, vd (pV l).2, 0, 0, 0⟩)
 else if (pB l).2 = 2 then ((pP l).1, ⟨(pA l).2, 2, [], (pT l).2, (pM l).2, (pP l).2⟩)
 else ((pB l).1, ⟨(pA l).2, (pB l).2, [], 0, 0, 0⟩)
def pok (l : List UInt8) : Bool := ((pread l).1.done == 0) && right (pread l).2
theorem pread_one {l : List UInt8} (h : (pB l).2 = 1) : pread l = ((pV l).1, ⟨(pA l).2, 1, vd (pV l).2, 0, 0, 0⟩) := by unfold pread; rw [if_pos h]
theorem pread_two {l : List UInt8} (h : (pB l).2 = 2) : pread l = ((pP l).1, ⟨(pA l).2, 2, [], (pT l).2, (pM l).2, (pP l).2⟩) := by unfold pread; rw [if_neg (by omega), if_pos h]
theorem pread_else {l : List UInt8} (h1 : (pB l).2 ≠ 1) (h2 : (pB l).2 ≠ 2) : pread l = ((pB l).1, ⟨(pA l).2, (pB l).2, [], 0, 0, 0⟩) := by unfold pread; rw [if_neg h1, if_neg h2]
theorem zl3 {e : E} (h : right e = true) : pread (text e) = (⟨[], 0⟩, e) := by
 obtain ⟨h1, h2⟩ := right_ok h
 have hk : 0 <= e.kind /\ e.kind <= 2 := by rcases h2 with ⟨k, _⟩ | ⟨k, _⟩ <;> omega
 have hA : pA (text e) = (⟨Pack.num e.kind.toNat ++ body e, 0⟩, e.number.toNat) := Pack.read_num _ _ _ _ (by omega) (by omega)
 have hB : pB (text e) = (⟨body e, 0⟩, e.kind.toNat) := by
  unfold pB; rw [hA]; exact Pack.read_num _ _ _ _ (by omega) (by omega)
 rcases h2 with ⟨k, v, t1, t2, t3⟩ | ⟨k, v, t1, t2, t3⟩
 . have hl := vecBytes_le v
   have hV : pV (text e) = (⟨[], 0⟩, vecBytes e.cut) := by
    unfold pV; rw [hB, body_one k]
    unfold Pack.St.text
    rw [Pack.read_num _ _ _ _ (by omega) (by omega)]
    simp
   rw [pread_one (by rw [hB]; show e.kind.toNat = 1; omega), hA, hV, zpn _ v]
   refine congrArg (fun x => (_, x)) ?_
   exact same (by simp only []; omega) k.symm rfl t1.symm t2.symm t3.symm
 . have hT : pT (text e) = (⟨Pack.num e.term.toNat ++ Pack.num e.pos.toNat, 0⟩, e.tag.toNat) := by
    unfold pT; rw [hB, body_two (by omega)]; exact Pack.read_num _ _ _ _ (by omega) (by omega)
   have hM : pM (text e) = (⟨Pack.num e.pos.toNat, 0⟩, e.term.toNat) := by
    unfold pM; rw [hT]; exact Pack.read_num _ _ _ _ (by omega) (by omega)
   have hP : pP (text e) = (⟨[], 0⟩, e.pos.toNat) := by
    unfold pP; rw [hM]
    have := Pack.read_num e.pos.toNat [] 0 1099511627776 (by omega) (by omega)
    rw [List.append_nil] at this
    exact this
   rw [pread_two (by rw [hB]; show e.kind.toNat = 2; omega), hA, hT, hM, hP]
   refine congrArg (fun x => (_, x)) ?_
   exact same (by simp only []; omega) k.symm v.symm (by simp only []; omega) (by simp only []; omega) (by simp only []; omega)
theorem zqn {e : E} (h : right e = true) : pok (text e) = true := by
 unfold pok
 rw [zl3 h, h]
 rfl
set_option maxHeartbeats 4000000 in
theorem zme {l : List UInt8} (h : pok l = true) : text (pread l).2 = l := by
 unfold pok at h
 rw [Bool.and_eq_true, beq_iff_eq] at h
 obtain ⟨hd, hr⟩ := h
 obtain ⟨d1, d2⟩ := Rec.done_zero hd
 have h2 := (right_ok hr).2
 have one : (pB l).2 = 1 \/ (pB l).2 = 2 := by
  by_cases h1 : (pB l).2 = 1
  . exact .inl h1
  . by_cases h2' : (pB l).2 = 2
    . exact .inr h2'
    . rw [pread_else h1 h2'] at h2
      simp only at h2
      omega
 rcases one with h1 | h1
 . rw [pread_one h1] at d1 d2 hr h2 ⊢
   simp only at d1 d2 h2
   have hv : Vec.right (vd (pV l).2) = true := by
    rcases h2 with ⟨_, hv, _⟩ | ⟨h, _⟩
    . exact hv
    . omega
   have d2' : ((pB l).1.text 65536).1.err = 0 := d2
   have eB : (pB l).1.err = 0 := Rec.num_err (Rec.text_err d2')
   have eB' : ((pA l).1.num 2).1.err = 0 := eB
   have eA : (pA l).1.err = 0 := Rec.num_err eB'
   have eA' : (Pack.St.num ⟨l, 0⟩ 1099511627776).1.err = 0 := eA
   have lV := Rec.text_left (s := (pB l).1) (most := 65536) d2'
   have lB := Rec.num_left (s := (pA l).1) (most := 2) eB'
   have lA := Rec.num_left (s := ⟨l, 0⟩) (most := 1099511627776) eA'
   have lV' : (pB l).1.left = Pack.num (pV l).2.length ++ (pV l).2 := by
    rw [lV]
    show Pack.num (pV l).2.length ++ ((pV l).2 ++ (pV l).1.left) = _
    rw [d1, List.append_nil]
   have lB' : (pA l).1.left = Pack.num (pB l).2 ++ (pB l).1.left := lB
   have lA' : l = Pack.num (pA l).2 ++ (pA l).1.left := lA
   unfold text
   rw [body_one rfl]
   simp only
   rw [zts (zgd hv), <- lV', show ((1 : Int)).toNat = (pB l).2 from h1.symm, <- lB', show (((pA l).2 : Nat) : Int).toNat = (pA l).2 from rfl, <- lA']
 . rw [pread_two h1] at d1 d2 hr h2 ⊢
   simp only at d1 d2 h2
   have eP' : ((pM l).1.num 1099511627776).1.err = 0 := d2
   have eM' : ((pT l).1.num 64).1.err = 0 := Rec.num_err eP'
   have eT' : ((pB l).1.num 1073741824).1.err = 0 := Rec.num_err (s := (pT l).1) (most := 64) eM'
   have eB' : ((pA l).1.num 2).1.err = 0 := Rec.num_err (s := (pB l).1) (most := 1073741824) eT'
   have eA' : (Pack.St.num ⟨l, 0⟩ 1099511627776).1.err = 0 := Rec.num_err (s := (pA l).1) (most := 2) eB'
   have lP := Rec.num_left (s := (pM l).1) (most := 1099511627776) eP'
   have lM := Rec.num_left (s := (pT l).1) (most := 64) eM'
   have lT := Rec.num_left (s := (pB l).1) (most := 1073741824) eT'
   have lB := Rec.num_left (s := (pA l).1) (most := 2) eB'
   have lA := Rec.num_left (s := ⟨l, 0⟩) (most := 1099511627776) eA'
   have lP0 : (pM l).1.left = Pack.num (pP l).2 ++ (pP l).1.left := lP
   have lP' : (pM l).1.left = Pack.num (pP l).2 := lP0.trans (by rw [d1, List.append_nil])
   have lM' : (pT l).1.left = Pack.num (pM l).2 ++ (pM l).1.left := lM
   have lT' : (pB l).1.left = Pack.num (pT l).2 ++ (pT l).1.left := lT
   have lB' : (pA l).1.left = Pack.num (pB l).2 ++ (pB l).1.left := lB
   have lA' : l = Pack.num (pA l).2 ++ (pA l).1.left := lA
   unfold text
   rw [body_two (by show (2 : Int) ≠ 1; decide)]
   simp only
   rw [show (((pP l).2 : Nat) : Int).toNat = (pP l).2 from rfl, <- lP', show (((pM l).2 : Nat) : Int).toNat = (pM l).2 from rfl, <- lM', show (((pT l).2 : Nat) : Int).toNat = (pT l).2 from rfl, <- lT', show ((2 : Int)).toNat = (pB l).2 from h1.symm, <- lB', show (((pA l).2 : Nat) : Int).toNat = (pA l).2 from rfl, <- lA']
theorem zqw {b l : List UInt8} (h : Crc.cutOf b = some l) : l ++ Crc.low (Crc.sum l) = b := by
 unfold Crc.cutOf at h
 split at h
 . cases h
 . split at h
   . rename_i hc
     injection h with h
     rw [<- h]
     exact hc
   . cases h
theorem dec_pok {b l : List UInt8} (hc : Crc.cutOf b = some l) (h : pok l = true) : dec vd b = some (pread l).2 := by
 have hr : right (pread l).2 = true := by
  unfold pok at h
  rw [Bool.and_eq_true] at h
  exact h.2
 rw [dec_vd_iff]
 refine ⟨hr, ?_⟩
 unfold enc
 rw [zme h]
 exact zqw hc
theorem dec_not {b l : List UInt8} (hc : Crc.cutOf b = some l) (h : pok l = false) : dec vd b = none := by
 cases hd : dec vd b with
 | none => rfl
 | some e =>
  exfalso
  obtain ⟨hr, he⟩ := dec_vd_iff.1 hd
  have : Crc.cutOf b = some (text e) := by rw [<- he]; exact Crc.cut_put _
  rw [hc] at this
  injection this with this
  rw [this, zqn hr] at h
  cases h
theorem dec_cut {b : List UInt8} (hc : Crc.cutOf b = none) : dec vd b = none := by
 unfold dec
 rw [hc]
def noE : E := ⟨0, 0, [], 0, 0, 0⟩
def errOf : Option (List UInt8) -> Option E -> Int
 | none, _ => 51
 | some _, none => 50
 | some _, some _ => 0
def entOf : Option E -> E
 | none => noE
 | some e => e
end Ent
end Go.Proofs.YtnoeconcpgdjlaaGreat
namespace Go.Proofs.YtnoeconcpgdjlaaGreat
set_option maxRecDepth 100000
open Go.RowKit
def RowN (B : Nat) (w : World) (v : Value) (l : List Int) : Prop := ∃ b n, B <= b /\ w.ownsRow b 3 1 v n (i64s l)
theorem RowN.nil (B : Nat) (w : World) : RowN B w (.slice none 0 0) [] := ⟨B, 0, Nat.le_refl _, World.ownsRow_nil _ _ _ _⟩
theorem RowN.row {B : Nat} {w : World} {v : Value} {l : List Int} (h : RowN B w v l) : RowI w v l := by
 obtain ⟨b, n, _, h⟩ := h
 exact ⟨b, n, h⟩
def zq7 (B : Nat) (w : World) (v : Value) (e : Ent.E) : Prop := ∃ t, v = entV t e /\ RowN B w t e.cut
def RowEnt (w : World) (v : Value) (e : Ent.E) : Prop := ∃ t, v = entV t e /\ RowI w t e.cut
theorem RowEnt.is {w : World} {v : Value} {e : Ent.E} (h : RowEnt w v e) : IsEnt w v e := by
 obtain ⟨t, e, h⟩ := h
 exact ⟨t, e, h.ints⟩
def zf2 (w : World) (l : List UInt8) (x : Ending) (w' : World) : Prop := ∃ u, x = .returned (.tuple #[u, .int .i64 (Ent.errOf (Crc.cutOf l) (Ent.dec Ent.vd l))]) /\ zq7 w.heap.size w' u (Ent.entOf (Ent.dec Ent.vd l)) /\ Ext w w'
theorem zg0 (w : World) : (Instr.build 84 #[]).run Tryz.prog w = .ok (.agg #[.int .i64 0, .int .i64 0, .slice none 0 0, .int .i64 0, .int .i64 0, .int .i64 0]) w := by kernel_rfl
theorem zmn (w : World) (n k : Int) : (Instr.build 84 #[(0, .int .i64 n), (1, .int .i64 k)]).run Tryz.prog w = .ok (.agg #[.int .i64 n, .int .i64 k, .slice none 0 0, .int .i64 0, .int .i64 0, .int .i64 0]) w := by kernel_rfl
theorem zlw (w : World) (c n : Int) : (Instr.build 40 #[(0, .int .i64 c), (1, .int .i64 n)]).run Tryz.prog w = .ok (.agg #[.int .i64 c, .int .i64 n]) w := by kernel_rfl
theorem EntAt.zero (T : TypeId) (w : World) : EntAt T (w.alloc (.cells #[.int .i64 0, .int .i64 0, .slice none 0 0, .int .i64 0, .int .i64 0, .int .i64 0] T)) w.heap.size (.slice none 0 0) Ent.noE := by
 unfold EntAt Ent.noE
 exact heap_alloc_new w _
theorem zo0 {w : World} {q : Nat} {x0 x1 x2 x3 x4 x5 : Value} {T : TypeId} (h : w.heap[q]? = some (.cells #[x0, x1, x2, x3, x4, x5] T (0, 0))) (v0 v1 v2 v3 v4 v5 : Value) :
 ((((((w.setCell ⟨q, 0, none⟩ v0).setCell ⟨q, 1, none⟩ v1).setCell ⟨q, 2, none⟩ v2).setCell ⟨q, 3, none⟩ v3).setCell ⟨q, 4, none⟩ v4).setCell ⟨q, 5, none⟩ v5).heap[q]? = some (.cells #[v0, v1, v2, v3, v4, v5] T (0, 0)) /\ But q w ((((((w.setCell ⟨q, 0, none⟩ v0).setCell ⟨q, 1, none⟩ v1).setCell ⟨q, 2, none⟩ v2).setCell ⟨q, 3, none⟩ v3).setCell ⟨q, 4, none⟩ v4).setCell ⟨q, 5, none⟩ v5) := by
 refine ⟨?_, ((((((But.refl _ _).setCell 0 none v0).setCell 1 none v1).setCell 2 none v2).setCell 3 none v3).setCell 4 none v4).setCell 5 none v5⟩
 have := heap_setCell (heap_setCell (heap_setCell (heap_setCell (heap_setCell (heap_setCell h 0 v0) 1 v1) 2 v2) 3 v3) 4 v4) 5 v5
 simpa using this
theorem EntAt.set {T : TypeId} {w : World} {p : Nat} {t : Value} {e : Ent.E} (h : EntAt T w p t e) (t' : Value) (e' : Ent.E) :
 EntAt T ((((((w.setCell ⟨p, 0, none⟩ (.int .i64 e'.number)).setCell ⟨p, 1, none⟩ (.int .i64 e'.kind)).setCell ⟨p, 2, none⟩ t').setCell ⟨p, 3, none⟩ (.int .i64 e'.tag)).setCell ⟨p, 4, none⟩ (.int .i64 e'.term)).setCell ⟨p, 5, none⟩ (.int .i64 e'.pos)) p t' e' ∧
 But p w ((((((w.setCell ⟨p, 0, none⟩ (.int .i64 e'.number)).setCell ⟨p, 1, none⟩ (.int .i64 e'.kind)).setCell ⟨p, 2, none⟩ t').setCell ⟨p, 3, none⟩ (.int .i64 e'.tag)).setCell ⟨p, 4, none⟩ (.int .i64 e'.term)).setCell ⟨p, 5, none⟩ (.int .i64 e'.pos)) := zo0 h _ _ _ _ _ _
theorem EntAt.setCut {T : TypeId} {w : World} {q : Nat} {u u' : Value} {n k t m p : Int} {c c' : List Int} (h : EntAt T w q u ⟨n, k, c, t, m, p⟩) : EntAt T (w.setCell ⟨q, 2, none⟩ u') q u' ⟨n, k, c', t, m, p⟩ := by
 have := heap_setCell h 2 u'
 unfold EntAt
 simpa using this
theorem EntAt.setTag {T : TypeId} {w : World} {q : Nat} {u : Value} {n k t m p t' : Int} {c : List Int} (h : EntAt T w q u ⟨n, k, c, t, m, p⟩) : EntAt T (w.setCell ⟨q, 3, none⟩ (.int .i64 t')) q u ⟨n, k, c, t', m, p⟩ := by
 have := heap_setCell h 3 (.int .i64 t')
 unfold EntAt
 simpa using this
theorem EntAt.setTerm {T : TypeId} {w : World} {q : Nat} {u : Value} {n k t m p m' : Int} {c : List Int} (h : EntAt T w q u ⟨n, k, c, t, m, p⟩) : EntAt T (w.setCell ⟨q, 4, none⟩ (.int .i64 m')) q u ⟨n, k, c, t, m', p⟩ := by
 have := heap_setCell h 4 (.int .i64 m')
 unfold EntAt
 simpa using this
theorem EntAt.setPos {T : TypeId} {w : World} {q : Nat} {u : Value} {n k t m p p' : Int} {c : List Int} (h : EntAt T w q u ⟨n, k, c, t, m, p⟩) : EntAt T (w.setCell ⟨q, 5, none⟩ (.int .i64 p')) q u ⟨n, k, c, t, m, p'⟩ := by
 have := heap_setCell h 5 (.int .i64 p')
 unfold EntAt
 simpa using this
theorem Ent.pok_eq {l : List UInt8} {S : Pack.St} {E : Ent.E} (h : Ent.pread l = (S, E)) : Ent.pok l = ((S.done == 0) && Ent.right E) := by unfold Ent.pok; rw [h]
theorem zrx {l t : List UInt8} (h : Crc.cutOf l = some t) : t.length <= l.length := by
 unfold Crc.cutOf at h
 split at h
 . cases h
 . split at h
   . injection h with h
     rw [<- h, List.length_take]
     omega
   . cases h
theorem zry (s : Pack.St) (most : Int) (h : 0 <= most) : ((s.text most).2.length : Int) <= most := by
 have h1 := zn1 s most h
 unfold Pack.St.text
 simp only
 split
 . simpa using h
 . rw [List.length_take]
   omega
set_option maxHeartbeats 8000000 in
theorem zh2 (v : Value) (l : List UInt8) (w : World) (hv : Bytes w v l) (hl : l.length <= 200000) :
 Calls Tryz.prog 109 #[v] w (zf2 w l) := by
 have hb0 := zg0
 have hb1 := zmn
 have hb2 := zlw
 have HV := Hi hv
 obtain ⟨a, cap, rfl, hcap, hmax, hn, hc⟩ := hv.open
 unfold maxLen at hmax
 clear hv hc
 unfold zf2
 have hno := fun h => Ent.dec_cut (b := l) h
 have hyes := fun t h1 h2 => Ent.dec_pok (b := l) (l := t) h1 h2
 have hnot := fun t h1 h2 => Ent.dec_not (b := l) (l := t) h1 h2
 have hlen := fun t h => zrx (l := l) (t := t) h
 obtain ⟨D, hD⟩ : ∃ D, Ent.dec Ent.vd l = D := ⟨_, rfl⟩
 obtain ⟨C, hC⟩ : ∃ C, Crc.cutOf l = C := ⟨_, rfl⟩
 rw [hC, hD] at hno hyes hnot ⊢
 rw [hC] at hlen
 have HC := Hi hC
 have HNO := Hi hno
 have HYES := Hi hyes
 have HNOT := Hi hnot
 have HLEN := Hi hlen
 clear hC hD hno hyes hnot hlen
 have hE0 : Ext w (w.alloc (.cells #[.int .i64 0, .int .i64 0, .slice none 0 0, .int .i64 0, .int .i64 0, .int .i64 0] 84)) := Ext.alloc _ _
 have HR0 := Hi (EntAt.zero 84 w)
 go_enter Tryz.func109, Tryz.ntmps109
 go_wp2_with fail
 refine (zhd _).mono ?_
 rintro e w1 ⟨rfl, ht1, hE1⟩
 rw [World.size_alloc] at ht1 ⊢
 have r1 := Hi (HR0.out.ext hE1)
 have e1 := hE0.trans hE1
 go_wp2_with fail
 have hcall := zs3 _ 0 0 _ l _ ht1 (.inl rfl) (HV.out.below e1) hl
 rw [HC.out] at hcall
 refine hcall.mono ?_
 clear hcall
 intro e w2 hq
 obtain ⟨-, hB2, hcut⟩ := hq
 have e2 : Ext w w2 := Below.trans (B := w.heap.size) e1 (hB2.below (Nat.le_succ _) e1.size)
 have r2 := Hi (r1.out.but hB2 (by simp))
 obtain ⟨c0, c1, c2, c3, c4, c5⟩ := r2.out.cells
 have fr : ∀ i, w2.frozen? ⟨w.heap.size, i, none⟩ = false := fun i => zac r2.out i
 cases C with
 | none =>
  subst hcut
  have hno := HNO.out rfl
  subst hno
  go_wp2_with fail
  have hs := r2.out.set (.slice none 0 0) Ent.noE
  exact bodyPost_ret (v := .tuple #[entV (.slice none 0 0) Ent.noE, .int .i64 51]) (by simp [results, Tryz.results109, go_sem, c0, c1, c2, c3, c4, c5, fr, Ent.noE, entV]) rfl ⟨_, rfl, ⟨_, rfl, RowN.nil _ _⟩, Below.trans (B := w.heap.size) e2 (hs.2.below (Nat.le_refl _) e2.size)⟩
 | some t =>
  obtain ⟨v2, rfl, hb2⟩ := hcut
  have htl : t.length <= l.length := HLEN.out t rfl
  have hA : Ent.pA t = Pack.St.num ⟨t, 0⟩ 1099511627776 := rfl
  obtain ⟨A, hA'⟩ : ∃ A, Ent.pA t = A := ⟨_, rfl⟩
  have hB : Ent.pB t = A.1.num 2 := by unfold Ent.pB; rw [hA']
  obtain ⟨B, hB'⟩ : ∃ B, Ent.pB t = B := ⟨_, rfl⟩
  rw [hA'] at hA
  rw [hB'] at hB
  have HA := Hi hA.symm
  have HB := Hi hB.symm
  have HAA := Hi hA'
  have HBB := Hi hB'
  have hB2' : B.2 <= 2 := by
   have := zn1 A.1 2 (by omega)
   rw [<- hB] at this
   omega
  obtain ⟨A1, nA⟩ := A
  obtain ⟨B1, nB⟩ := B
  simp only at HB hB2'
  clear hA hB hA' hB' c0 c1 c2 c3 c4 c5 fr
  obtain ⟨a2, n2, k2, rfl⟩ := hb2.isSlice
  go_wp2_with fail
  refine (zce _ t _ hb2 (by omega)).mono ?_
  rintro e w3 ⟨p, rfl, hp, hr3, hE3⟩
  have e3 := e2.trans hE3
  have r3 := Hi (r2.out.ext hE3)
  have hq0 : w.heap.size ≠ p := by have := r2.out.lt; omega
  have hwp : w.heap.size <= p := Nat.le_trans e2.size hp
  go_wp2_with fail
  refine (zcp p _ 1099511627776 _ hr3).mono ?_
  rw [HA.out]
  rintro e w4 ⟨rfl, hB4, hr4⟩
  have r4 := Hi (r3.out.but hB4 hq0)
  have e4 : Ext w w4 := Below.trans (B := w.heap.size) e3 (hB4.below hwp e3.size)
  go_wp2_with fail
  refine (zcp p _ 2 _ hr4).mono ?_
  rw [HB.out]
  rintro e w5 ⟨rfl, hB5, hr5⟩
  have r5 := Hi (r4.out.but hB5 hq0)
  have e5 : Ext w w5 := Below.trans (B := w.heap.size) e4 (hB5.below hwp e4.size)
  have hpq : p < w5.heap.size := hr5.lt
  have hwq : w.heap.size < w5.heap.size := by have := r5.out.lt; omega
  obtain ⟨k, hk⟩ : ∃ k : Int, (nB : Int) = k := ⟨_, rfl⟩
  obtain ⟨x, hx⟩ : ∃ x : Int, (nA : Int) = x := ⟨_, rfl⟩
  have HX := Hi hx
  have HKK := Hi hk
  dsimp only
  rw [hk, hx]
  clear hx
  have hE6 : Ext w5 (w5.alloc (.cells #[.int .i64 x, .int .i64 k, .slice none 0 0, .int .i64 0, .int .i64 0, .int .i64 0] 84)) := Ext.alloc _ _
  have x6 := Hi (EntAt.new 84 w5 (.slice none 0 0) ⟨x, k, [], 0, 0, 0⟩)
  have r6 := Hi (r5.out.ext hE6)
  have e6 := e5.trans hE6
  have R6 := Hi (hr5.ext hE6)
  obtain ⟨y0, y1, y2, y3, y4, y5⟩ := x6.out.cells
  have fx := fun i => zac x6.out i
  by_cases k1 : k = 1
  . subst k1
    have hn1 : nB = 1 := by omega
    clear hk
    obtain ⟨F, hF⟩ : ∃ F, Ent.pV t = F := ⟨_, rfl⟩
    have hF' : B1.text 65536 = F := by rw [<- hF]; unfold Ent.pV; rw [HBB.out]
    have HP := Hi (show Ent.pread t = (F.1, ⟨x, 1, Ent.vd F.2, 0, 0, 0⟩) by rw [Ent.pread_one (by rw [HBB.out]; exact hn1), hF, HAA.out, <- HX.out])
    have hFl : F.2.length <= 65536 := by have := zry B1 65536 (by omega); rw [hF'] at this; omega
    have HF := Hi hF'
    clear hF hF' hn1
    go_wp2_with fail
    clear y0 y1 y2 y3 y4 y5 fx
    generalize hw6 : w5.alloc (.cells #[.int .i64 x, .int .i64 1, .slice none 0 0, .int .i64 0, .int .i64 0, .int .i64 0] 84) = w6 at *
    generalize hq : w5.heap.size = q at *
    clear hw6 hq
    refine (zrj p _ 65536 _ R6.out).mono ?_
    rw [HF.out]
    rintro e w7 ⟨rfl, hB7, hr7⟩
    have x7 := Hi (x6.out.but hB7 (by omega))
    have r7 := Hi (r6.out.but hB7 hq0)
    have e7 : Ext w w7 := Below.trans (B := w.heap.size) e6 (hB7.below hwp e6.size)
    have hcv := zr0 w7 F.2
    have hby := Hi (zi6 w7 F.2 5 (by unfold maxLen; omega))
    have hEb := zgb w7 5 ⟨F.2.toArray⟩
    have hR7 := Hi hr7
    clear hr7
    go_wp2_with fail
    refine (zl4 _ F.2 _ hby.out (by omega)).mono ?_
    unfold GivesDecO
    rintro e w8 ⟨v8, rfl, ho8, hE8⟩
    have hE78 := hEb.trans hE8
    have x8 := Hi (x7.out.ext hE78)
    have r8 := Hi (r7.out.ext hE78)
    have R8 := Hi (hR7.out.ext hE78)
    have e8 := e7.trans hE78
    obtain ⟨a8, n8, c8, rfl⟩ := zao ho8
    have O8 := Hi (show w8.ownsRow _ 3 1 (.slice a8 n8 c8) (Ent.vd F.2).length (i64s (Ent.vd F.2)) from ho8)
    have hfar : ∀ j, (Value.slice a8 n8 c8).ownBlock = some j -> q < j := fun j hj => by
     have h1 := (O8.out.lt j hj).1
     have h2 := hEb.size
     have h3 := x7.out.lt
     omega
    have O9 := Hi (zbe O8.out (p := q) (fun e => by have := hfar _ e.symm; omega) (za2 w8 q 2 (.slice a8 n8 c8)))
    have HKEEP := Hi (show ∀ w11 w', Ext (w8.setCell ⟨q, 2, none⟩ (.slice a8 n8 c8)) w11 -> But w.heap.size w11 w' -> RowN w.heap.size w' (.slice a8 n8 c8) (Ent.vd F.2) from fun w11 w' hE hB => ⟨_, _, (e7.trans hEb).size, zbe (za0 O9.out hE) (fun e => by have := hfar _ e.symm; omega) hB⟩)
    have HI9 := Hi (show Ints (w8.setCell ⟨q, 2, none⟩ (.slice a8 n8 c8)) (.slice a8 n8 c8) (Ent.vd F.2) from Sl.ofOwn O9.out)
    obtain ⟨y0, y1, y2, y3, y4, y5⟩ := x8.out.cells
    have fx := fun i => zac x8.out i
    have x9 := Hi (EntAt.setCut (u' := .slice a8 n8 c8) (c' := Ent.vd F.2) x8.out)
    have r9 := Hi (r8.out.but (za2 w8 q 2 (.slice a8 n8 c8)) (by omega))
    have R9 := Hi (R8.out.setBehind (q := q) (o := 2) (v := .slice a8 n8 c8) (by omega))
    have e9 : Ext w (w8.setCell ⟨q, 2, none⟩ (.slice a8 n8 c8)) := Below.setCell e8 (p := ⟨q, 2, none⟩) (by show w.heap.size <= q; omega) _
    clear ho8 hfar
    go_wp2_with fail
    generalize hw9 : w8.setCell ⟨q, 2, none⟩ (.slice a8 n8 c8) = w9 at *
    clear hw9 y0 y1 y2 y3 y4 y5 fx
    refine (zg9 p _ _ R9.out).mono ?_
    obtain ⟨d, hdd⟩ : ∃ d, F.1.done = d := ⟨_, rfl⟩
    have HOK := Hi (Ent.pok_eq HP.out)
    rw [hdd] at HOK ⊢
    clear hdd
    rintro e w10 ⟨rfl, rfl⟩
    by_cases hd : d = 0
    . subst hd
      have HOK2 := Hi (show Ent.pok t = Ent.right ⟨x, 1, Ent.vd F.2, 0, 0, 0⟩ by rw [HOK.out]; rfl)
      obtain ⟨d0, d1, d2, d3, d4, d5⟩ := x9.out.cells
      clear HOK
      go_wp2_with fail
      refine (zbg _ ⟨x, 1, Ent.vd F.2, 0, 0, 0⟩ _ ⟨_, rfl, HI9.out⟩).mono ?_
      rintro e w11 ⟨rfl, hE11⟩
      have r11 := Hi (r9.out.ext hE11)
      have x11 := Hi (x9.out.ext hE11)
      have e11 := e9.trans hE11
      have HI11 := Hi (HI9.out.below hE11)
      clear d0 d1 d2 d3 d4 d5
      obtain ⟨c0, c1, c2, c3, c4, c5⟩ := r11.out.cells
      obtain ⟨d0, d1, d2, d3, d4, d5⟩ := x11.out.cells
      have fr : ∀ i, w11.frozen? ⟨w.heap.size, i, none⟩ = false := fun i => zac r11.out i
      cases hrr : Ent.right ⟨x, 1, Ent.vd F.2, 0, 0, 0⟩ with
      | false =>
       have hno := HNOT.out t rfl (HOK2.out.trans hrr)
       subst hno
       clear hrr HOK2
       go_wp2_with fail
       have hs := r11.out.set (.slice none 0 0) Ent.noE
       exact bodyPost_ret (v := .tuple #[entV (.slice none 0 0) Ent.noE, .int .i64 50]) (by simp [results, Tryz.results109, go_sem, c0, c1, c2, c3, c4, c5, fr, Ent.noE, entV]) rfl
        ⟨_, rfl, ⟨_, rfl, RowN.nil _ _⟩, Below.trans (B := w.heap.size) e11 (hs.2.below (Nat.le_refl _) e11.size)⟩
      | true =>
       have hyes := HYES.out t rfl (HOK2.out.trans hrr)
       rw [HP.out] at hyes
       subst hyes
       clear hrr HOK2
       go_wp2_with fail
       have hs := r11.out.set (.slice a8 n8 c8) ⟨x, 1, Ent.vd F.2, 0, 0, 0⟩
       exact bodyPost_ret (v := .tuple #[entV (.slice a8 n8 c8) ⟨x, 1, Ent.vd F.2, 0, 0, 0⟩, .int .i64 0]) (by simp [results, Tryz.results109, go_sem, c0, c1, c2, c3, c4, c5, d0, d1, d2, d3, d4, d5, fr, entV]) rfl
        ⟨_, rfl, ⟨_, rfl, HKEEP.out _ _ hE11 hs.2⟩, Below.trans (B := w.heap.size) e11 (hs.2.below (Nat.le_refl _) e11.size)⟩
    . have hno := HNOT.out t rfl (by rw [HOK.out, show (d == 0) = false from beq_eq_false_iff_ne.2 hd]; rfl)
      subst hno
      clear HOK
      obtain ⟨c0, c1, c2, c3, c4, c5⟩ := r9.out.cells
      have fr : ∀ i, w9.frozen? ⟨w.heap.size, i, none⟩ = false := fun i => zac r9.out i
      go_wp2_with fail
      have hs := r9.out.set (.slice none 0 0) Ent.noE
      exact bodyPost_ret (v := .tuple #[entV (.slice none 0 0) Ent.noE, .int .i64 50]) (by simp [results, Tryz.results109, go_sem, c0, c1, c2, c3, c4, c5, fr, Ent.noE, entV]) rfl
       ⟨_, rfl, ⟨_, rfl, RowN.nil _ _⟩, Below.trans (B := w.heap.size) e9 (hs.2.below (Nat.le_refl _) e9.size)⟩
  . by_cases k2 : k = 2
    . subst k2
      have hn2 : nB = 2 := by omega
      clear hk
      obtain ⟨F1, nF, hF⟩ : ∃ F1 nF, Ent.pT t = (F1, nF) := ⟨_, _, rfl⟩
      obtain ⟨G1, nG, hG⟩ : ∃ G1 nG, Ent.pM t = (G1, nG) := ⟨_, _, rfl⟩
      obtain ⟨H1, nH, hH⟩ : ∃ H1 nH, Ent.pP t = (H1, nH) := ⟨_, _, rfl⟩
      have hF' : B1.num 1073741824 = (F1, nF) := by rw [<- hF]; unfold Ent.pT; rw [HBB.out]
      have hG' : F1.num 64 = (G1, nG) := by rw [<- hG]; unfold Ent.pM; rw [hF]
      have hH' : G1.num 1099511627776 = (H1, nH) := by rw [<- hH]; unfold Ent.pP; rw [hG]
      have HP := Hi (show Ent.pread t = (H1, ⟨x, 2, [], (nF : Int), (nG : Int), (nH : Int)⟩) by rw [Ent.pread_two (by rw [HBB.out]; exact hn2), hF, hG, hH, HAA.out, <- HX.out])
      have HF := Hi hF'
      have HG := Hi hG'
      have HH := Hi hH'
      clear hF hF' hG hG' hH hH' hn2
      go_wp2_with fail
      clear y0 y1 y2 y3 y4 y5 fx
      generalize hw6 : w5.alloc (.cells #[.int .i64 x, .int .i64 2, .slice none 0 0, .int .i64 0, .int .i64 0, .int .i64 0] 84) = w6 at *
      generalize hq : w5.heap.size = q at *
      clear hw6 hq
      refine (zcp p _ 1073741824 _ R6.out).mono ?_
      rw [HF.out]
      rintro e w7 ⟨rfl, hB7, hr7⟩
      obtain ⟨f, hf⟩ : ∃ f : Int, (nF : Int) = f := ⟨_, rfl⟩
      dsimp only
      rw [hf]
      rw [hf] at HP
      clear hf
      have x7 := Hi (x6.out.but hB7 (by omega))
      have r7 := Hi (r6.out.but hB7 hq0)
      have e7 : Ext w w7 := Below.trans (B := w.heap.size) e6 (hB7.below hwp e6.size)
      obtain ⟨y0, y1, y2, y3, y4, y5⟩ := x7.out.cells
      have fx := fun i => zac x7.out i
      have x8 := Hi (EntAt.setTag (t' := f) x7.out)
      have r8 := Hi (r7.out.but (za2 w7 q 3 (.int .i64 f)) (by omega))
      have R8 := Hi (hr7.setBehind (q := q) (o := 3) (v := .int .i64 f) (by omega))
      have e8 : Ext w (w7.setCell ⟨q, 3, none⟩ (.int .i64 f)) := Below.setCell e7 (p := ⟨q, 3, none⟩) (by show w.heap.size <= q; omega) _
      clear hr7
      go_wp2_with fail
      generalize hw8 : w7.setCell ⟨q, 3, none⟩ (.int .i64 f) = w8 at *
      clear hw8 y0 y1 y2 y3 y4 y5 fx
      refine (zcp p _ 64 _ R8.out).mono ?_
      rw [HG.out]
      rintro e wa ⟨rfl, hBa, hra⟩
      obtain ⟨g, hg⟩ : ∃ g : Int, (nG : Int) = g := ⟨_, rfl⟩
      dsimp only
      rw [hg]
      rw [hg] at HP
      clear hg
      have xa := Hi (x8.out.but hBa (by omega))
      have ra := Hi (r8.out.but hBa hq0)
      have ea : Ext w wa := Below.trans (B := w.heap.size) e8 (hBa.below hwp e8.size)
      go_wp2_with fail
      refine (zcp p _ 1099511627776 _ hra).mono ?_
      rw [HH.out]
      rintro e wb ⟨rfl, hBb, hrb⟩
      obtain ⟨h, hh⟩ : ∃ h : Int, (nH : Int) = h := ⟨_, rfl⟩
      dsimp only
      rw [hh]
      rw [hh] at HP
      clear hh
      have xb := Hi (xa.out.but hBb (by omega))
      have rb := Hi (ra.out.but hBb hq0)
      have eb : Ext w wb := Below.trans (B := w.heap.size) ea (hBb.below hwp ea.size)
      obtain ⟨y0, y1, y2, y3, y4, y5⟩ := xb.out.cells
      have fx := fun i => zac xb.out i
      have x9 := Hi (EntAt.setPos (p' := h) (EntAt.setTerm (m' := g) xb.out))
      have hBc : But q wb ((wb.setCell ⟨q, 4, none⟩ (.int .i64 g)).setCell ⟨q, 5, none⟩ (.int .i64 h)) := (za2 wb q 4 (.int .i64 g)).setCell 5 none _
      have r9 := Hi (rb.out.but hBc (by omega))
      have R9 := Hi ((hrb.setBehind (q := q) (o := 4) (v := .int .i64 g) (by omega)).setBehind (q := q) (o := 5) (v := .int .i64 h) (by omega))
      have e9 : Ext w ((wb.setCell ⟨q, 4, none⟩ (.int .i64 g)).setCell ⟨q, 5, none⟩ (.int .i64 h)) := Below.trans (B := w.heap.size) eb (hBc.below (by omega) eb.size)
      have HI9 := Hi (zdh ((wb.setCell ⟨q, 4, none⟩ (.int .i64 g)).setCell ⟨q, 5, none⟩ (.int .i64 h)))
      clear hrb hBc
      go_wp2_with fail
      generalize hw9 : (wb.setCell ⟨q, 4, none⟩ (.int .i64 g)).setCell ⟨q, 5, none⟩ (.int .i64 h) = w9 at *
      clear hw9 y0 y1 y2 y3 y4 y5 fx
      refine (zg9 p _ _ R9.out).mono ?_
      obtain ⟨d, hdd⟩ : ∃ d, H1.done = d := ⟨_, rfl⟩
      have HOK := Hi (Ent.pok_eq HP.out)
      rw [hdd] at HOK ⊢
      clear hdd
      rintro e w10 ⟨rfl, rfl⟩
      by_cases hd : d = 0
      . subst hd
        have HOK2 := Hi (show Ent.pok t = Ent.right ⟨x, 2, [], f, g, h⟩ by rw [HOK.out]; rfl)
        obtain ⟨d0, d1, d2, d3, d4, d5⟩ := x9.out.cells
        clear HOK
        go_wp2_with fail
        refine (zbg _ ⟨x, 2, [], f, g, h⟩ _ ⟨_, rfl, HI9.out⟩).mono ?_
        rintro e w11 ⟨rfl, hE11⟩
        have r11 := Hi (r9.out.ext hE11)
        have x11 := Hi (x9.out.ext hE11)
        have e11 := e9.trans hE11
        have HI11 := Hi (HI9.out.below hE11)
        clear d0 d1 d2 d3 d4 d5
        obtain ⟨c0, c1, c2, c3, c4, c5⟩ := r11.out.cells
        obtain ⟨d0, d1, d2, d3, d4, d5⟩ := x11.out.cells
        have fr : ∀ i, w11.frozen? ⟨w.heap.size, i, none⟩ = false := fun i => zac r11.out i
        cases hrr : Ent.right ⟨x, 2, [], f, g, h⟩ with
        | false =>
         have hno := HNOT.out t rfl (HOK2.out.trans hrr)
         subst hno
         clear hrr HOK2
         go_wp2_with fail
         have hs := r11.out.set (.slice none 0 0) Ent.noE
         exact bodyPost_ret (v := .tuple #[entV (.slice none 0 0) Ent.noE, .int .i64 50]) (by simp [results, Tryz.results109, go_sem, c0, c1, c2, c3, c4, c5, fr, Ent.noE, entV]) rfl
          ⟨_, rfl, ⟨_, rfl, RowN.nil _ _⟩, Below.trans (B := w.heap.size) e11 (hs.2.below (Nat.le_refl _) e11.size)⟩
        | true =>
         have hyes := HYES.out t rfl (HOK2.out.trans hrr)
         rw [HP.out] at hyes
         subst hyes
         clear hrr HOK2
         go_wp2_with fail
         have hs := r11.out.set (.slice none 0 0) ⟨x, 2, [], f, g, h⟩
         exact bodyPost_ret (v := .tuple #[entV (.slice none 0 0) ⟨x, 2, [], f, g, h⟩, .int .i64 0]) (by simp [results, Tryz.results109, go_sem, c0, c1, c2, c3, c4, c5, d0, d1, d2, d3, d4, d5, fr, entV]) rfl
          ⟨_, rfl, ⟨_, rfl, RowN.nil _ _⟩, Below.trans (B := w.heap.size) e11 (hs.2.below (Nat.le_refl _) e11.size)⟩
      . have hno := HNOT.out t rfl (by rw [HOK.out, show (d == 0) = false from beq_eq_false_iff_ne.2 hd]; rfl)
        subst hno
        clear HOK
        obtain ⟨c0, c1, c2, c3, c4, c5⟩ := r9.out.cells
        have fr : ∀ i, w9.frozen? ⟨w.heap.size, i, none⟩ = false := fun i => zac r9.out i
        go_wp2_with fail
        have hs := r9.out.set (.slice none 0 0) Ent.noE
        exact bodyPost_ret (v := .tuple #[entV (.slice none 0 0) Ent.noE, .int .i64 50]) (by simp [results, Tryz.results109, go_sem, c0, c1, c2, c3, c4, c5, fr, Ent.noE, entV]) rfl
         ⟨_, rfl, ⟨_, rfl, RowN.nil _ _⟩, Below.trans (B := w.heap.size) e9 (hs.2.below (Nat.le_refl _) e9.size)⟩
    . have hn1 : nB ≠ 1 := by omega
      have hn2 : nB ≠ 2 := by omega
      have hk0 : k = 0 := by omega
      subst hk0
      have HP := Hi (show Ent.pread t = (B1, ⟨x, 0, [], 0, 0, 0⟩) by rw [Ent.pread_else (by rw [HBB.out]; exact hn1) (by rw [HBB.out]; exact hn2), HBB.out, HAA.out, <- HX.out, <- HKK.out])
      clear hk hn1 hn2
      go_wp2_with fail
      clear y0 y1 y2 y3 y4 y5 fx
      generalize hw6 : w5.alloc (.cells #[.int .i64 x, .int .i64 0, .slice none 0 0, .int .i64 0, .int .i64 0, .int .i64 0] 84) = w9 at *
      generalize hq : w5.heap.size = q at *
      clear hw6 hq
      have x9 := x6
      have r9 := r6
      have R9 := R6
      have e9 := e6
      have HI9 := Hi (zdh w9)
      refine (zg9 p _ _ R9.out).mono ?_
      obtain ⟨d, hdd⟩ : ∃ d, B1.done = d := ⟨_, rfl⟩
      have HOK := Hi (Ent.pok_eq HP.out)
      rw [hdd] at HOK ⊢
      clear hdd
      rintro e w10 ⟨rfl, rfl⟩
      by_cases hd : d = 0
      . subst hd
        have HOK2 := Hi (show Ent.pok t = Ent.right ⟨x, 0, [], 0, 0, 0⟩ by rw [HOK.out]; rfl)
        obtain ⟨d0, d1, d2, d3, d4, d5⟩ := x9.out.cells
        clear HOK
        go_wp2_with fail
        refine (zbg _ ⟨x, 0, [], 0, 0, 0⟩ _ ⟨_, rfl, HI9.out⟩).mono ?_
        rintro e w11 ⟨rfl, hE11⟩
        have r11 := Hi (r9.out.ext hE11)
        have x11 := Hi (x9.out.ext hE11)
        have e11 := e9.trans hE11
        have HI11 := Hi (HI9.out.below hE11)
        clear d0 d1 d2 d3 d4 d5
        obtain ⟨c0, c1, c2, c3, c4, c5⟩ := r11.out.cells
        obtain ⟨d0, d1, d2, d3, d4, d5⟩ := x11.out.cells
        have fr : ∀ i, w11.frozen? ⟨w.heap.size, i, none⟩ = false := fun i => zac r11.out i
        cases hrr : Ent.right ⟨x, 0, [], 0, 0, 0⟩ with
        | false =>
         have hno := HNOT.out t rfl (HOK2.out.trans hrr)
         subst hno
         clear hrr HOK2
         go_wp2_with fail
         have hs := r11.out.set (.slice none 0 0) Ent.noE
         exact bodyPost_ret (v := .tuple #[entV (.slice none 0 0) Ent.noE, .int .i64 50]) (by simp [results, Tryz.results109, go_sem, c0, c1, c2, c3, c4, c5, fr, Ent.noE, entV]) rfl
          ⟨_, rfl, ⟨_, rfl, RowN.nil _ _⟩, Below.trans (B := w.heap.size) e11 (hs.2.below (Nat.le_refl _) e11.size)⟩
        | true =>
         have hyes := HYES.out t rfl (HOK2.out.trans hrr)
         rw [HP.out] at hyes
         subst hyes
         clear hrr HOK2
         go_wp2_with fail
         have hs := r11.out.set (.slice none 0 0) ⟨x, 0, [], 0, 0, 0⟩
         exact bodyPost_ret (v := .tuple #[entV (.slice none 0 0) ⟨x, 0, [], 0, 0, 0⟩, .int .i64 0]) (by simp [results, Tryz.results109, go_sem, c0, c1, c2, c3, c4, c5, d0, d1, d2, d3, d4, d5, fr, entV]) rfl
          ⟨_, rfl, ⟨_, rfl, RowN.nil _ _⟩, Below.trans (B := w.heap.size) e11 (hs.2.below (Nat.le_refl _) e11.size)⟩
      . have hno := HNOT.out t rfl (by rw [HOK.out, show (d == 0) = false from beq_eq_false_iff_ne.2 hd]; rfl)
        subst hno
        clear HOK
        obtain ⟨c0, c1, c2, c3, c4, c5⟩ := r9.out.cells
        have fr : ∀ i, w9.frozen? ⟨w.heap.size, i, none⟩ = false := fun i => zac r9.out i
        go_wp2_with fail
        have hs := r9.out.set (.slice none 0 0) Ent.noE
        exact bodyPost_ret (v := .tuple #[entV (.slice none 0 0) Ent.noE, .int .i64 50]) (by simp [results, Tryz.results109, go_sem, c0, c1, c2, c3, c4, c5, fr, Ent.noE, entV]) rfl
         ⟨_, rfl, ⟨_, rfl, RowN.nil _ _⟩, Below.trans (B := w.heap.size) e9 (hs.2.below (Nat.le_refl _) e9.size)⟩
theorem RowN.lower {B B' : Nat} {w : World} {v : Value} {l : List Int} (h : RowN B w v l) (hB : B' <= B) : RowN B' w v l := by
 obtain ⟨b, n, hb, h⟩ := h
 exact ⟨b, n, Nat.le_trans hB hb, h⟩
theorem RowN.ext {B : Nat} {w w' : World} {v : Value} {l : List Int} (h : RowN B w v l) (hE : Ext w w') : RowN B w' v l := by
 obtain ⟨b, n, hb, h⟩ := h
 exact ⟨b, n, hb, za0 h hE⟩
theorem RowN.low {B C : Nat} {w : World} {v : Value} {l : List Int} (h : RowN C w v l) (hB : B <= C) : ∀ k, v.ownBlock = some k -> B <= k := by
 obtain ⟨b, n, hb, h⟩ := h
 exact fun k hk => Nat.le_trans hB (Nat.le_trans hb (h.lt k hk).1)
theorem RowN.blocks {B : Nat} {w w' : World} {v : Value} {l : List Int} (h : RowN B w v l) (hs : ∀ g, v.ownBlock = some g -> w'.heap[g]? = w.heap[g]?) : RowN B w' v l := by
 obtain ⟨b, n, hb, ho⟩ := h
 exact ⟨b, n, hb, za1 ho hs⟩
theorem RowN.lt {B : Nat} {w : World} {v : Value} {l : List Int} (h : RowN B w v l) : ∀ g, v.ownBlock = some g -> B <= g /\ g < w.heap.size := fun g hg => by
 obtain ⟨b, n, hb, ho⟩ := h
 have := ho.lt g hg
 exact ⟨Nat.le_trans hb this.1, this.2⟩
set_option maxHeartbeats 8000000 in
theorem zfm (v u : Value) (a b : Ent.E) (w : World) (hv : IsEnt w v a) (hu : IsEnt w u b) :
 Calls Tryz.prog 52 #[v, u] w fun x w' => x = .returned (.bool (Ent.alike a b)) /\ Ext w w' := by
 have hbx := zho
 obtain ⟨s1, rfl, ht⟩ := hv
 obtain ⟨s2, rfl, ht2⟩ := hu
 obtain ⟨n, k, c, t, m, p⟩ := a
 obtain ⟨n2, k2, c2, t2, m2, p2⟩ := b
 unfold entV at *
 simp only at ht ht2 ⊢
 obtain ⟨a1, cap1, rfl, hcap1, hmax1, _, _⟩ := ht.open
 obtain ⟨a2, cap2, rfl, hcap2, hmax2, _, _⟩ := ht2.open
 unfold maxLen at hmax1 hmax2
 have HT := Hi ht
 have HT2 := Hi ht2
 clear ht ht2
 have hE : Ext w ((w.alloc (.cells #[.int .i64 n, .int .i64 k, .slice a1 c.length cap1, .int .i64 t, .int .i64 m, .int .i64 p] 84)).alloc (.cells #[.int .i64 n2, .int .i64 k2, .slice a2 c2.length cap2, .int .i64 t2, .int .i64 m2, .int .i64 p2] 84)) := zf3 _ _ _
 have HH := Hi (zev w (.cells #[.int .i64 n, .int .i64 k, .slice a1 c.length cap1, .int .i64 t, .int .i64 m, .int .i64 p] 84) (.cells #[.int .i64 n2, .int .i64 k2, .slice a2 c2.length cap2, .int .i64 t2, .int .i64 m2, .int .i64 p2] 84))
 by_cases hn : n = n2
 . subst hn
   by_cases hk : k = k2
   . subst hk
     cases hc : (c == c2) with
     | false =>
      have HC := Hi hc
      clear hc
      have HR := Hi (show Ent.alike ⟨n, k, c, t, m, p⟩ ⟨n, k, c2, t2, m2, p2⟩ = false by unfold Ent.alike; rw [HC.out]; simp)
      go_enter Tryz.func52, Tryz.ntmps52
      go_wp2_with fail
      refine (zbd _ _ c c2 _ (HT.out.below hE) (HT2.out.below hE)).mono ?_
      rw [HC.out]
      rintro e w3 ⟨rfl, hE3⟩
      have hz := And.intro (zaa (zad HH.out.1 hE3)) (zaa (zad HH.out.2 hE3))
      have y3 := hz.1 3
      have y4 := hz.1 4
      have y5 := hz.1 5
      have z3 := hz.2 3
      have z4 := hz.2 4
      have z5 := hz.2 5
      clear hz
      simp at y3 y4 y5 z3 z4 z5
      go_wp2_with fail
      go_ret
      exact ⟨by rw [HR.out]; rfl, hE.trans hE3⟩
     | true =>
      have HC := Hi hc
      clear hc
      by_cases ht : t = t2
      . subst ht
        by_cases hm : m = m2
        . subst hm
          by_cases hp : p = p2
          . subst hp
            have HR := Hi (show Ent.alike ⟨n, k, c, t, m, p⟩ ⟨n, k, c2, t, m, p⟩ = true by unfold Ent.alike; rw [HC.out]; simp)
            go_enter Tryz.func52, Tryz.ntmps52
            go_wp2_with fail
            refine (zbd _ _ c c2 _ (HT.out.below hE) (HT2.out.below hE)).mono ?_
            rw [HC.out]
            rintro e w3 ⟨rfl, hE3⟩
            have hz := And.intro (zaa (zad HH.out.1 hE3)) (zaa (zad HH.out.2 hE3))
            have y3 := hz.1 3
            have y4 := hz.1 4
            have y5 := hz.1 5
            have z3 := hz.2 3
            have z4 := hz.2 4
            have z5 := hz.2 5
            clear hz
            simp at y3 y4 y5 z3 z4 z5
            go_wp2_with fail
            go_ret
            exact ⟨by rw [HR.out]; rfl, hE.trans hE3⟩
          . have HR := Hi (show Ent.alike ⟨n, k, c, t, m, p⟩ ⟨n, k, c2, t, m, p2⟩ = false by unfold Ent.alike; simp [hp])
            go_enter Tryz.func52, Tryz.ntmps52
            go_wp2_with fail
            refine (zbd _ _ c c2 _ (HT.out.below hE) (HT2.out.below hE)).mono ?_
            rw [HC.out]
            rintro e w3 ⟨rfl, hE3⟩
            have hz := And.intro (zaa (zad HH.out.1 hE3)) (zaa (zad HH.out.2 hE3))
            have y3 := hz.1 3
            have y4 := hz.1 4
            have y5 := hz.1 5
            have z3 := hz.2 3
            have z4 := hz.2 4
            have z5 := hz.2 5
            clear hz
            simp at y3 y4 y5 z3 z4 z5
            go_wp2_with fail
            go_ret
            exact ⟨by rw [HR.out]; rfl, hE.trans hE3⟩
        . have HR := Hi (show Ent.alike ⟨n, k, c, t, m, p⟩ ⟨n, k, c2, t, m2, p2⟩ = false by unfold Ent.alike; simp [hm])
          go_enter Tryz.func52, Tryz.ntmps52
          go_wp2_with fail
          refine (zbd _ _ c c2 _ (HT.out.below hE) (HT2.out.below hE)).mono ?_
          rw [HC.out]
          rintro e w3 ⟨rfl, hE3⟩
          have hz := And.intro (zaa (zad HH.out.1 hE3)) (zaa (zad HH.out.2 hE3))
          have y3 := hz.1 3
          have y4 := hz.1 4
          have y5 := hz.1 5
          have z3 := hz.2 3
          have z4 := hz.2 4
          have z5 := hz.2 5
          clear hz
          simp at y3 y4 y5 z3 z4 z5
          go_wp2_with fail
          go_ret
          exact ⟨by rw [HR.out]; rfl, hE.trans hE3⟩
      . have HR := Hi (show Ent.alike ⟨n, k, c, t, m, p⟩ ⟨n, k, c2, t2, m2, p2⟩ = false by unfold Ent.alike; simp [ht])
        go_enter Tryz.func52, Tryz.ntmps52
        go_wp2_with fail
        refine (zbd _ _ c c2 _ (HT.out.below hE) (HT2.out.below hE)).mono ?_
        rw [HC.out]
        rintro e w3 ⟨rfl, hE3⟩
        have hz := And.intro (zaa (zad HH.out.1 hE3)) (zaa (zad HH.out.2 hE3))
        have y3 := hz.1 3
        have y4 := hz.1 4
        have y5 := hz.1 5
        have z3 := hz.2 3
        have z4 := hz.2 4
        have z5 := hz.2 5
        clear hz
        simp at y3 y4 y5 z3 z4 z5
        go_wp2_with fail
        go_ret
        exact ⟨by rw [HR.out]; rfl, hE.trans hE3⟩
   . have HR := Hi (show Ent.alike ⟨n, k, c, t, m, p⟩ ⟨n, k2, c2, t2, m2, p2⟩ = false by unfold Ent.alike; simp [hk])
     go_enter Tryz.func52, Tryz.ntmps52
     go_wp2_with fail
     go_ret
     exact ⟨by rw [HR.out]; rfl, hE⟩
 . have HR := Hi (show Ent.alike ⟨n, k, c, t, m, p⟩ ⟨n2, k2, c2, t2, m2, p2⟩ = false by unfold Ent.alike; simp [hn])
   go_enter Tryz.func52, Tryz.ntmps52
   go_wp2_with fail
   go_ret
   exact ⟨by rw [HR.out]; rfl, hE⟩
set_option maxHeartbeats 8000000 in
theorem zil (v u : Value) (a b : Ent.E) (w : World) (hv : IsEnt w v a) (hu : IsEnt w u b) :
 Calls Tryz.prog 11 #[v, u] w fun x w' => x = .returned (.bool (Ent.alike a b)) /\ Ext w w' := by
 have hbx := zqk
 obtain ⟨s1, rfl, ht⟩ := hv
 obtain ⟨s2, rfl, ht2⟩ := hu
 obtain ⟨n, k, c, t, m, p⟩ := a
 obtain ⟨n2, k2, c2, t2, m2, p2⟩ := b
 unfold entV at *
 simp only at ht ht2 ⊢
 obtain ⟨a1, cap1, rfl, hcap1, hmax1, _, _⟩ := ht.open
 obtain ⟨a2, cap2, rfl, hcap2, hmax2, _, _⟩ := ht2.open
 unfold maxLen at hmax1 hmax2
 have HT := Hi ht
 have HT2 := Hi ht2
 clear ht ht2
 have hE : Ext w ((w.alloc (.cells #[.int .i64 n, .int .i64 k, .slice a1 c.length cap1, .int .i64 t, .int .i64 m, .int .i64 p] 46)).alloc (.cells #[.int .i64 n2, .int .i64 k2, .slice a2 c2.length cap2, .int .i64 t2, .int .i64 m2, .int .i64 p2] 46)) := zf3 _ _ _
 have HH := Hi (zev w (.cells #[.int .i64 n, .int .i64 k, .slice a1 c.length cap1, .int .i64 t, .int .i64 m, .int .i64 p] 46) (.cells #[.int .i64 n2, .int .i64 k2, .slice a2 c2.length cap2, .int .i64 t2, .int .i64 m2, .int .i64 p2] 46))
 by_cases hn : n = n2
 . subst hn
   by_cases hk : k = k2
   . subst hk
     by_cases ht : t = t2
     . subst ht
       by_cases hm : m = m2
       . subst hm
         by_cases hp : p = p2
         . subst hp
           cases hc : (c == c2) with
           | false =>
            have HC := Hi hc
            clear hc
            have HR := Hi (show Ent.alike ⟨n, k, c, t, m, p⟩ ⟨n, k, c2, t, m, p⟩ = false by unfold Ent.alike; rw [HC.out]; simp)
            go_enter Tryz.func11, Tryz.ntmps11
            go_wp2_with fail
            refine (zgp _ _ c c2 _ (HT.out.below hE) (HT2.out.below hE)).mono ?_
            rw [HC.out]
            rintro e w3 ⟨rfl, hE3⟩
            have hz := And.intro (zaa (zad HH.out.1 hE3)) (zaa (zad HH.out.2 hE3))
            have y3 := hz.1 3
            have y4 := hz.1 4
            have y5 := hz.1 5
            have z3 := hz.2 3
            have z4 := hz.2 4
            have z5 := hz.2 5
            clear hz
            simp at y3 y4 y5 z3 z4 z5
            go_wp2_with fail
            go_ret
            exact ⟨by rw [HR.out]; rfl, hE.trans hE3⟩
           | true =>
            have HC := Hi hc
            clear hc
            have HR := Hi (show Ent.alike ⟨n, k, c, t, m, p⟩ ⟨n, k, c2, t, m, p⟩ = true by unfold Ent.alike; rw [HC.out]; simp)
            go_enter Tryz.func11, Tryz.ntmps11
            go_wp2_with fail
            refine (zgp _ _ c c2 _ (HT.out.below hE) (HT2.out.below hE)).mono ?_
            rw [HC.out]
            rintro e w3 ⟨rfl, hE3⟩
            have hz := And.intro (zaa (zad HH.out.1 hE3)) (zaa (zad HH.out.2 hE3))
            have y3 := hz.1 3
            have y4 := hz.1 4
            have y5 := hz.1 5
            have z3 := hz.2 3
            have z4 := hz.2 4
            have z5 := hz.2 5
            clear hz
            simp at y3 y4 y5 z3 z4 z5
            go_wp2_with fail
            go_ret
            exact ⟨by rw [HR.out]; rfl, hE.trans hE3⟩
         . have HR := Hi (show Ent.alike ⟨n, k, c, t, m, p⟩ ⟨n, k, c2, t, m, p2⟩ = false by unfold Ent.alike; simp [hp])
           go_enter Tryz.func11, Tryz.ntmps11
           go_wp2_with fail
           go_ret
           exact ⟨by rw [HR.out]; rfl, hE⟩
       . have HR := Hi (show Ent.alike ⟨n, k, c, t, m, p⟩ ⟨n, k, c2, t, m2, p2⟩ = false by unfold Ent.alike; simp [hm])
         go_enter Tryz.func11, Tryz.ntmps11
         go_wp2_with fail
         go_ret
         exact ⟨by rw [HR.out]; rfl, hE⟩
     . have HR := Hi (show Ent.alike ⟨n, k, c, t, m, p⟩ ⟨n, k, c2, t2, m2, p2⟩ = false by unfold Ent.alike; simp [ht])
       go_enter Tryz.func11, Tryz.ntmps11
       go_wp2_with fail
       go_ret
       exact ⟨by rw [HR.out]; rfl, hE⟩
   . have HR := Hi (show Ent.alike ⟨n, k, c, t, m, p⟩ ⟨n, k2, c2, t2, m2, p2⟩ = false by unfold Ent.alike; simp [hk])
     go_enter Tryz.func11, Tryz.ntmps11
     go_wp2_with fail
     go_ret
     exact ⟨by rw [HR.out]; rfl, hE⟩
 . have HR := Hi (show Ent.alike ⟨n, k, c, t, m, p⟩ ⟨n2, k2, c2, t2, m2, p2⟩ = false by unfold Ent.alike; simp [hn])
   go_enter Tryz.func11, Tryz.ntmps11
   go_wp2_with fail
   go_ret
   exact ⟨by rw [HR.out]; rfl, hE⟩
def EntHere (w : World) (b o : Nat) (e : Ent.E) : Prop :=
 ∃ t, w.cell? ⟨b, o, none⟩ = some (.int .i64 e.number) /\ w.cell? ⟨b, o + 1, none⟩ = some (.int .i64 e.kind) /\ w.cell? ⟨b, o + 2, none⟩ = some t /\ w.cell? ⟨b, o + 3, none⟩ = some (.int .i64 e.tag) /\ w.cell? ⟨b, o + 4, none⟩ = some (.int .i64 e.term) /\ w.cell? ⟨b, o + 5, none⟩ = some (.int .i64 e.pos) /\ Ints w t e.cut
theorem EntHere.below {w w' : World} {b o : Nat} {e : Ent.E} (h : EntHere w b o e) (hb : Below w.heap.size w w') : EntHere w' b o e := by
 obtain ⟨t, h1, h2, h3, h4, h5, h6, h7⟩ := h
 have key : ∀ i, w'.cell? ⟨b, i, none⟩ = w.cell? ⟨b, i, none⟩ := fun i => World.cell?_of_block (w := w) (hb.block b (World.block_lt_of_cell? w _ h1))
 exact ⟨t, (key _).trans h1, (key _).trans h2, (key _).trans h3, (key _).trans h4, (key _).trans h5, (key _).trans h6, h7.below hb⟩
def Ents (w : World) (v : Value) (l : List Ent.E) : Prop :=
 ∃ (a : Option Addr) (cap : Nat), v = .slice a l.length cap /\ l.length <= cap /\ cap <= maxLen /\ (a = none -> cap = 0) /\ ∀ i (h : i < l.length), ∃ b off, a = some ⟨b, off, none⟩ /\ EntHere w b (off + i * 6) l[i]
theorem Ents.below {w w' : World} {v : Value} {l : List Ent.E} (h : Ents w v l) (hb : Below w.heap.size w w') : Ents w' v l := by
 obtain ⟨a, cap, rfl, h1, h2, h4, h3⟩ := h
 refine ⟨a, cap, rfl, h1, h2, h4, fun i hi => ?_⟩
 obtain ⟨b, off, e, hc⟩ := h3 i hi
 exact ⟨b, off, e, hc.below hb⟩
theorem Ents.shape {w : World} {v : Value} {l : List Ent.E} (h : Ents w v l) : ∃ a c, v = .slice a l.length c /\ l.length <= c /\ c <= 9223372036854775807 := by
 obtain ⟨a, cap, rfl, h1, h2, _⟩ := h
 unfold maxLen at h2
 exact ⟨a, cap, rfl, h1, h2⟩
theorem Ents.nil (w : World) : Ents w (.slice none 0 0) [] := ⟨none, 0, rfl, Nat.le_refl _, by simp [maxLen], fun _ => rfl, fun i hi => absurd hi (by simp)⟩
theorem Ents.take {w : World} {a : Option Addr} {n cap : Nat} {l : List Ent.E} (h : Ents w (.slice a n cap) l) (k : Nat) (hk : k <= l.length) : Ents w (.slice a k cap) (l.take k) := by
 obtain ⟨a', cap', e, h1, h2, h4, h3⟩ := h
 injection e with e1 e2 e3
 subst e1 e3
 have hl : (l.take k).length = k := by rw [List.length_take]; omega
 refine ⟨_, _, by rw [hl], by omega, h2, h4, fun i hi => ?_⟩
 obtain ⟨b, off, e, hc⟩ := h3 i (by omega)
 exact ⟨b, off, e, by simpa using hc⟩
def LastIs (w : World) (u : Value) : Option (List Int) -> Prop
 | none => u = .slice none 0 0
 | some c => Ints w u c /\ ∃ a n k, u = .slice (some a) n k
theorem LastIs.ext {w w' : World} {u : Value} {o : Option (List Int)} (h : LastIs w u o) (hE : Ext w w') : LastIs w' u o := by
 cases o with
 | none => exact h
 | some c => exact ⟨h.1.below hE, h.2⟩
theorem LastIs.isSlice {w : World} {u : Value} {o : Option (List Int)} (h : LastIs w u o) : ∃ a n k, u = .slice a n k := by
 cases o with
 | none => exact ⟨_, _, _, h⟩
 | some c =>
  obtain ⟨_, a, n, k, e⟩ := h
  exact ⟨_, _, _, e⟩
theorem LastIs.of_ints {w : World} {u : Value} {c : List Int} (h : Ints w u c) (hc : c ≠ []) : LastIs w u (some c) := by
 refine ⟨h, ?_⟩
 obtain ⟨a, cap, rfl, _, _, _, hx⟩ := h.open
 obtain ⟨b, off, rfl, _⟩ := hx 0 (List.length_pos_iff.2 hc)
 exact ⟨_, _, _, rfl⟩
theorem Ent.cut_next (l : List Ent.E) (k : Nat) (hk : k < l.length) : Ent.lastCut (l.take (k + 1)) = if l[k].kind = 1 then some l[k].cut else Ent.lastCut (l.take k) := by
 rw [zam l k hk, Ent.lastCut_snoc]
theorem Ent.right_cut {e : Ent.E} (h : Ent.right e = true) (hk : e.kind = 1) : Vec.right e.cut = true /\ e.cut ≠ [] := by
 rcases (Ent.right_ok h).2 with ⟨_, hv, _⟩ | ⟨h, _⟩
 . refine ⟨hv, fun e0 => ?_⟩
   have := (Vec.right_ok hv).2.1
   rw [e0] at this
   simp at this
 . omega
def zfc (w : World) (l : List Ent.E) (x : Ending) (w' : World) : Prop := ∃ u, x = .returned (.tuple #[.int .i64 (Ent.chain l : Int), u]) /\ LastIs w' u (Ent.lastCut (l.take (Ent.chain l))) /\ Ext w w'
set_option maxHeartbeats 8000000 in
theorem zfx (v : Value) (l : List Ent.E) (w : World) (hv : Ents w v l) :
 Calls Tryz.prog 85 #[v] w (zfc w l) := by
 have HV := Hi hv
 have e1 := fun (w : World) (a : Option Addr) (n c : Nat) => Lib.run_eql_slice_nil (P := Tryz.prog) w 22 3 a n c 0 0 Tryz.underlying22
 obtain ⟨a, cap, rfl, hcap, hmax, _, _⟩ := hv
 unfold maxLen at hmax
 unfold zfc
 go_enter Tryz.func85, Tryz.ntmps85
 go_wp2
 go_step3
 go_wp2
 go_step3
 go_wp2
 go_loopw [2, 3, 5, 8] (fun n u _ i wr => ∃ k : Nat, k <= l.length /\ i = .int .i64 k /\ n = .int .i64 k /\ Hid (Ent.chain (l.take k) = k) /\ Hid (LastIs wr u (Ent.lastCut (l.take k))) /\ Ext w wr) (fun _ _ _ i _ => l.length - (intOf i).toNat)
 case atStart => exact ⟨0, by omega, rfl, rfl, rfl, rfl, Ext.refl _⟩
 case round =>
  obtain ⟨k, hk, rfl, rfl, hch, hlast, hE⟩ := hrel
  by_cases hlt : k < l.length
  . obtain ⟨a', cap', e', _, _, _, hc⟩ := HV.out.below hE
    obtain ⟨b, off, rfl, t, p0, p1, p2, p3, p4, p5, ht⟩ := hc k hlt
    injection e' with e1' e2' e3'
    subst e1'
    have hstop := fun h => Ent.chain_stop hlt hch.out h
    have hnext := Ent.chain_next hlt hch.out
    have hcut := Ent.cut_next l k hlt
    have hfol := Ent.follows_iff (l.take k) l[k]
    have hrc := fun (h1 : Ent.right l[k] = true) (h2 : l[k].kind = 1) => Ent.right_cut h1 h2
    have hlk : (l.take k).length = k := by rw [List.length_take]; omega
    rw [hlk] at hfol
    obtain ⟨a2, cap2, rfl, hcap2, hmax2, _, _⟩ := ht.open
    unfold maxLen at hmax2
    have HI := Hi (show IsEnt wr (.agg #[.int .i64 l[k].number, .int .i64 l[k].kind, .slice a2 l[k].cut.length cap2, .int .i64 l[k].tag, .int .i64 l[k].term, .int .i64 l[k].pos]) l[k] from ⟨_, rfl, ht⟩)
    have HT := Hi ht
    generalize l[k] = R at *
    obtain ⟨n, kd, c, tg, m, p⟩ := R
    clear hc e2' e3' ht
    simp only at *
    have hEa : Ext wr (wr.alloc (.cells #[.int .i64 n, .int .i64 kd, .slice a2 c.length cap2, .int .i64 tg, .int .i64 m, .int .i64 p] 84)) := Ext.alloc _ _
    have HX := Hi (EntAt.new 84 wr (.slice a2 c.length cap2) ⟨n, kd, c, tg, m, p⟩)
    have HSTOP := Hi hstop
    have HNEXT := Hi hnext
    have HCUT := Hi hcut
    have HFOL := Hi hfol
    have HRC := Hi hrc
    have hk63 : (k : Int) + 1 <= 9223372036854775807 := by omega
    clear hstop hnext hcut hfol hrc hlk
    obtain ⟨au, nu, ku, rfl⟩ := LastIs.isSlice hlast.out
    have hn0 : (Ent.follows (l.take k) ⟨n, kd, c, tg, m, p⟩ = true -> False) -> Ent.chain l = k := fun h => HSTOP.out (by
     cases hf : Ent.follows (l.take k) ⟨n, kd, c, tg, m, p⟩ with
     | false => rfl
     | true => exact (h hf).elim)
    have HN0 := Hi hn0
    clear hn0
    by_cases hn : n = (k : Int) + 1
    . subst hn
      cases hr : Ent.right ⟨(k : Int) + 1, kd, c, tg, m, p⟩ with
      | false =>
       have HR := Hi hr
       have HC := Hi (HN0.out fun h => by have := (HFOL.out.1 h).1; rw [hr] at this; cases this)
       clear hr
       go_wp2_with fail
       refine (zbg _ ⟨(k : Int) + 1, kd, c, tg, m, p⟩ _ (HI.out.below hEa)).mono ?_
       rw [HR.out]
       rintro e w1 ⟨rfl, hE1⟩
       go_wp2_with fail
       (try rw [Exit.noGoto_ret])
       go_ret2
       exact ⟨_, by rw [HC.out]; rfl, by rw [HC.out]; exact hlast.out.ext (hEa.trans hE1), hE.trans (hEa.trans hE1)⟩
      | true =>
       have HR := Hi hr
       by_cases k1 : kd = 1
       . subst k1
         obtain ⟨hvr, hcne⟩ := HRC.out hr rfl
         obtain ⟨o, ho⟩ : ∃ o, Ent.lastCut (l.take k) = o := ⟨_, rfl⟩
         have hcut2 := HCUT.out
         rw [if_pos rfl] at hcut2
         have HC2 := Hi hcut2
         rw [ho] at hlast
         cases o with
         | none =>
          have hf : Ent.follows (l.take k) ⟨(k : Int) + 1, 1, c, tg, m, p⟩ = true := HFOL.out.2 ⟨hr, rfl, fun _ => by rw [ho]; rfl⟩
          have hnx := HNEXT.out
          rw [hf, if_pos rfl] at hnx
          have HNX := Hi hnx
          obtain ⟨rfl, rfl, rfl⟩ : au = none /\ nu = 0 /\ ku = 0 := by have := hlast.out; unfold LastIs at this; simpa using this
          have HCN := Hi hcne
          clear hr hf hnx ho hcut2 hvr hcne
          go_wp2_with fail
          refine (zbg _ ⟨(k : Int) + 1, 1, c, tg, m, p⟩ _ (HI.out.below hEa)).mono ?_
          rw [HR.out]
          rintro e w1 ⟨rfl, hE1⟩
          have x1 := Hi (HX.out.ext hE1)
          obtain ⟨c0, c1, c2, c3, c4, c5⟩ := x1.out.cells
          go_wp2_with fail
          go_roundw
          case rel => exact ⟨k + 1, by omega, by go_num, by go_num, HNX.out, by rw [Hid, HC2.out]; exact LastIs.of_ints (HT.out.below (hEa.trans hE1)) HCN.out, hE.trans (hEa.trans hE1)⟩
          case measure => simp [intOf]; omega
         | some u =>
          have hu := hlast.out.1
          obtain ⟨a3, n3, k3, e3⟩ := hlast.out.2
          injection e3 with e4 e5 e6
          subst e4 e5 e6
          have HU := Hi hu
          cases hcv : Vec.covers c u with
          | false =>
           have HC := Hi (HN0.out fun h => by
            have := (HFOL.out.1 h).2.2 rfl
            rw [ho] at this
            have h2 : Vec.covers c u = true := this
            rw [hcv] at h2
            cases h2)
           have HCV := Hi hcv
           have HO := Hi ho
           clear hr ho hcut2 hvr hcne hcv hu
           go_wp2_with fail
           refine (zbg _ ⟨(k : Int) + 1, 1, c, tg, m, p⟩ _ (HI.out.below hEa)).mono ?_
           rw [HR.out]
           rintro e w1 ⟨rfl, hE1⟩
           have x1 := Hi (HX.out.ext hE1)
           obtain ⟨c0, c1, c2, c3, c4, c5⟩ := x1.out.cells
           go_wp2_with fail
           refine (ze3 _ _ c u _ (HT.out.below (hEa.trans hE1)) (HU.out.below (hEa.trans hE1))).mono ?_
           rw [HCV.out]
           rintro e w2 ⟨rfl, rfl⟩
           go_wp2_with fail
           (try rw [Exit.noGoto_ret])
           go_ret2
           exact ⟨_, by rw [HC.out]; rfl, by rw [HC.out, HO.out]; exact hlast.out.ext (hEa.trans hE1), hE.trans (hEa.trans hE1)⟩
          | true =>
           have hf : Ent.follows (l.take k) ⟨(k : Int) + 1, 1, c, tg, m, p⟩ = true := HFOL.out.2 ⟨hr, rfl, fun _ => by rw [ho]; exact hcv⟩
           have hnx := HNEXT.out
           rw [hf, if_pos rfl] at hnx
           have HNX := Hi hnx
           have HCV := Hi hcv
           have HCN := Hi hcne
           clear hr hf hnx ho hcut2 hvr hcne hcv hu
           go_wp2_with fail
           refine (zbg _ ⟨(k : Int) + 1, 1, c, tg, m, p⟩ _ (HI.out.below hEa)).mono ?_
           rw [HR.out]
           rintro e w1 ⟨rfl, hE1⟩
           have x1 := Hi (HX.out.ext hE1)
           obtain ⟨c0, c1, c2, c3, c4, c5⟩ := x1.out.cells
           go_wp2_with fail
           refine (ze3 _ _ c u _ (HT.out.below (hEa.trans hE1)) (HU.out.below (hEa.trans hE1))).mono ?_
           rw [HCV.out]
           rintro e w2 ⟨rfl, rfl⟩
           go_wp2_with fail
           go_roundw
           case rel => exact ⟨k + 1, by omega, by go_num, by go_num, HNX.out, by rw [Hid, HC2.out]; exact LastIs.of_ints (HT.out.below (hEa.trans hE1)) HCN.out, hE.trans (hEa.trans hE1)⟩
           case measure => simp [intOf]; omega
       . have hf : Ent.follows (l.take k) ⟨(k : Int) + 1, kd, c, tg, m, p⟩ = true := HFOL.out.2 ⟨hr, rfl, fun h => absurd h k1⟩
         have hnx := HNEXT.out
         rw [hf, if_pos rfl] at hnx
         have hcut2 := HCUT.out
         rw [if_neg k1] at hcut2
         have HNX := Hi hnx
         have HC2 := Hi hcut2
         clear hr hf hnx hcut2
         have hkb : (kd == 1) = false := beq_eq_false_iff_ne.2 k1
         go_wp2_with fail
         refine (zbg _ ⟨(k : Int) + 1, kd, c, tg, m, p⟩ _ (HI.out.below hEa)).mono ?_
         rw [HR.out]
         rintro e w1 ⟨rfl, hE1⟩
         have x1 := Hi (HX.out.ext hE1)
         obtain ⟨c0, c1, c2, c3, c4, c5⟩ := x1.out.cells
         go_wp2_with fail
         go_roundw
         case rel => exact ⟨k + 1, by omega, by go_num, by go_num, HNX.out, by rw [Hid, HC2.out]; exact hlast.out.ext (hEa.trans hE1), hE.trans (hEa.trans hE1)⟩
         case measure => simp [intOf]; omega
    . have HC := Hi (HN0.out fun h => hn (HFOL.out.1 h).2.1)
      go_wp2_with fail
      (try rw [Exit.noGoto_ret])
      go_ret2
      exact ⟨_, by rw [HC.out]; rfl, by rw [HC.out]; exact hlast.out.ext hEa, hE.trans hEa⟩
  . obtain rfl : k = l.length := by omega
    have HC := Hi (Ent.chain_end hch.out)
    obtain ⟨au, nu, ku, rfl⟩ := LastIs.isSlice hlast.out
    go_wp2_with fail
    (try rw [Exit.noGoto_ret])
    go_ret2
    exact ⟨_, by rw [HC.out]; rfl, by rw [HC.out]; exact hlast.out, hE⟩
set_option maxHeartbeats 2000000 in
theorem ze0 (v : Value) (l : List Ent.E) (w : World) (hv : Ents w v l) :
 Calls Tryz.prog 50 #[v] w fun x w' => x = .returned (.int .i64 (Ent.chain l : Int)) /\ Ext w w' := by
 have HV := Hi hv
 obtain ⟨a, cap, rfl, hcap, hmax⟩ := hv.shape
 clear hv
 go_enter Tryz.func50, Tryz.ntmps50
 go_wp2_with fail
 refine (zfx _ l _ HV.out).mono ?_
 unfold zfc
 rintro e w1 ⟨u, rfl, hl, hE⟩
 obtain ⟨au, nu, ku, rfl⟩ := hl.isSlice
 clear hl
 go_wp2_with fail
 go_ret
 exact ⟨rfl, hE⟩
set_option maxHeartbeats 4000000 in
theorem zp5 (v : Value) (l : List Ent.E) (n : Int) (w : World) (hv : Ents w v l) :
 Calls Tryz.prog 58 #[v, .int .i64 n] w fun x w' => ∃ u, x = .returned u /\ Ints w' u (Ent.lastOf l (zeros n)) /\ Ext w w' := by
 have HV := Hi hv
 obtain ⟨a, cap, rfl, hcap, hmax⟩ := hv.shape
 clear hv
 have e1 := fun (w : World) (a : Option Addr) (n c : Nat) => Lib.run_eql_slice_nil (P := Tryz.prog) w 22 3 a n c 0 0 Tryz.underlying22
 have hlo : Ent.lastOf l (zeros n) = match Ent.lastCut (l.take (Ent.chain l)) with
  | none => zeros n
  | some c => c := rfl
 have hrt := fun c h => Ent.last_right (l := l) (c := c) h
 go_enter Tryz.func58, Tryz.ntmps58
 go_wp2_with fail
 refine (zfx _ l _ HV.out).mono ?_
 unfold zfc
 obtain ⟨o, ho⟩ : ∃ o, Ent.lastCut (l.take (Ent.chain l)) = o := ⟨_, rfl⟩
 rw [ho] at hlo hrt ⊢
 have HLO := Hi hlo
 have HRT := Hi hrt
 clear hlo hrt ho
 rintro e w1 ⟨u, rfl, hl, hE⟩
 cases o with
 | none =>
  obtain rfl : u = .slice none 0 0 := hl
  go_wp2_with fail
  refine (zli n _).mono ?_
  unfold zi0
  rintro e w2 ⟨u2, rfl, ho2, hE2⟩
  go_wp2_with fail
  go_ret
  exact ⟨_, rfl, by rw [HLO.out]; exact Sl.ofOwn ho2, hE.trans hE2⟩
 | some c =>
  have hc8 : c.length <= 8 := (Vec.right_ok (HRT.out c rfl)).2.2
  obtain ⟨hi, a3, n3, k3, rfl⟩ := hl
  have HI := Hi hi
  clear hi
  go_wp2_with fail
  refine (zds _ c _ HI.out (by omega)).mono ?_
  rintro e w2 ⟨u2, rfl, ho2, hE2⟩
  go_wp2_with fail
  go_ret
  exact ⟨_, rfl, by rw [HLO.out]; exact Sl.ofOwn ho2, hE.trans hE2⟩
def zah (ps : List (Value × Ent.E)) : List Value := ps.flatMap fun p => [.int .i64 p.2.number, .int .i64 p.2.kind, p.1, .int .i64 p.2.tag, .int .i64 p.2.term, .int .i64 p.2.pos]
theorem zbm (ps qs : List (Value × Ent.E)) : zah (ps ++ qs) = zah ps ++ zah qs := by simp [zah]
theorem zdx (ps : List (Value × Ent.E)) : (zah ps).length = ps.length * 6 := by
 induction ps with
 | nil => rfl
 | cons p ps ih =>
  simp only [zah, List.flatMap_cons, List.length_append, List.length_cons, List.length_nil] at ih ⊢
  omega
theorem zcf : ∀ (ps : List (Value × Ent.E)) (i j : Nat) (hi : i < ps.length), j < 6 -> (zah ps)[i * 6 + j]? = [Value.int .i64 ps[i].2.number, .int .i64 ps[i].2.kind, ps[i].1, .int .i64 ps[i].2.tag, .int .i64 ps[i].2.term, .int .i64 ps[i].2.pos][j]? := by
 intro ps
 induction ps with
 | nil => intro i j hi; exact absurd hi (by simp)
 | cons p ps ih =>
  intro i j hi hj
  unfold zah
  rw [List.flatMap_cons]
  cases i with
  | zero => rw [Nat.zero_mul, Nat.zero_add, List.getElem?_append_left (by simpa using hj)]; rfl
  | succ i =>
   rw [List.getElem?_append_right (by simp; omega)]
   have e : (i + 1) * 6 + j - [Value.int IntKind.i64 p.2.number, .int .i64 p.2.kind, p.1, .int .i64 p.2.tag, .int .i64 p.2.term, .int .i64 p.2.pos].length = i * 6 + j := by
    simp only [List.length_cons, List.length_nil]
    omega
   rw [e]
   exact ih i j (by simpa using hi) hj
theorem zbb {w : World} {v : Value} {ps : List (Value × Ent.E)} (h1 : ∀ p ∈ ps, Ints w p.1 p.2.cut) (h2 : SlN 6 w v ps.length (zah ps)) : Ents w v (ps.map (·.2)) := by
 obtain ⟨a, cap, rfl, q1, q2, q4, q5, q3⟩ := h2
 refine ⟨a, cap, by simp, by simpa using q1, q2, q4, fun i hi => ?_⟩
 have hi' : i < ps.length := by simpa using hi
 have hl := zdx ps
 have cell : ∀ j, j < 6 -> ∃ b off, a = some ⟨b, off, none⟩ /\ w.cell? ⟨b, off + (i * 6 + j), none⟩ = [Value.int .i64 ps[i].2.number, .int .i64 ps[i].2.kind, ps[i].1, .int .i64 ps[i].2.tag, .int .i64 ps[i].2.term, .int .i64 ps[i].2.pos][j]? := by
  intro j hj
  obtain ⟨b, off, e, hc⟩ := q3 (i * 6 + j) (by omega)
  have hx := zcf ps i j hi' hj
  rw [List.getElem?_eq_getElem (by omega)] at hx
  exact ⟨b, off, e, hc.trans hx⟩
 obtain ⟨b, off, rfl, k0⟩ := cell 0 (by omega)
 have same : ∀ j, j < 6 -> w.cell? ⟨b, off + (i * 6 + j), none⟩ = [Value.int .i64 ps[i].2.number, .int .i64 ps[i].2.kind, ps[i].1, .int .i64 ps[i].2.tag, .int .i64 ps[i].2.term, .int .i64 ps[i].2.pos][j]? := by
  intro j hj
  obtain ⟨b', off', e, hc⟩ := cell j hj
  injection e with e
  injection e with e1 e2
  subst e1 e2
  exact hc
 refine ⟨b, off, rfl, ps[i].1, ?_⟩
 simp only [List.getElem_map]
 exact ⟨same 0 (by omega), same 1 (by omega), same 2 (by omega), same 3 (by omega), same 4 (by omega), same 5 (by omega), h1 _ (List.getElem_mem _)⟩
theorem zb3 {w : World} {ps : List (Value × Ent.E)} (h : ∀ p ∈ ps, Ints w p.1 p.2.cut) : ∀ y ∈ zah ps, y.oneCell' = true := by
 intro y hy
 unfold zah at hy
 rw [List.mem_flatMap] at hy
 obtain ⟨p, hp, hy⟩ := hy
 obtain ⟨a, n, c, e⟩ := Ints.isSlice (h p hp)
 simp only [List.mem_cons, List.not_mem_nil, or_false] at hy
 rcases hy with rfl | rfl | rfl | rfl | rfl | rfl
 . rfl
 . rfl
 . rw [e]; rfl
 . rfl
 . rfl
 . rfl
theorem tE : ElemN Tryz.prog 61 84 (.agg #[.int .i64 0, .int .i64 0, .slice none 0 0, .int .i64 0, .int .i64 0, .int .i64 0]) 6 64 := ⟨Tryz.underlying61, by kernel_rfl, rfl, by omega⟩
def OwnEnts (w0 w : World) (base : Nat) (v : Value) (l : List Ent.E) : Prop := ∃ ps : List (Value × Ent.E), ps.map (·.2) = l /\ (∀ p ∈ ps, Ints w0 p.1 p.2.cut) /\ w.ownsRow base 84 6 v l.length (zah ps)
theorem OwnEnts.ents {w0 w : World} {base : Nat} {v : Value} {l : List Ent.E} (h : OwnEnts w0 w base v l) (hE : Ext w0 w) : Ents w v l := by
 obtain ⟨ps, rfl, h1, h2⟩ := h
 refine zbb (fun p hp => (h1 p hp).below hE) ?_
 have := SlN.ofOwn h2
 rwa [List.length_map] at this
theorem OwnEnts.nil (w0 w : World) (base : Nat) : OwnEnts w0 w base (.slice none 0 0) [] := ⟨[], rfl, by simp, World.ownsRow_nil _ _ _ _⟩
theorem OwnEnts.ext {w0 w w' : World} {base : Nat} {v : Value} {l : List Ent.E} (h : OwnEnts w0 w base v l) (hE : Ext w w') : OwnEnts w0 w' base v l := by
 obtain ⟨ps, h1, h2, h3⟩ := h
 exact ⟨ps, h1, h2, za0 h3 hE⟩
theorem OwnEnts.isSlice {w0 w : World} {base : Nat} {v : Value} {l : List Ent.E} (h : OwnEnts w0 w base v l) : ∃ a c, v = .slice a l.length c := by
 obtain ⟨ps, h1, h2, h3⟩ := h
 rcases h3.2 with ⟨rfl, h0⟩ | ⟨g, c, cur, rfl, _⟩
 . rw [h0]; exact ⟨_, _, rfl⟩
 . exact ⟨_, _, rfl⟩
theorem SlN.one6 (w : World) {T : TypeId} (u : Value) (e : Ent.E) : SlN 6 (w.alloc (.cells #[.int .i64 e.number, .int .i64 e.kind, u, .int .i64 e.tag, .int .i64 e.term, .int .i64 e.pos] T)) (.slice (some ⟨w.heap.size, 0, none⟩) 1 1) 1 (zah [(u, e)]) := by
 refine ⟨_, _, rfl, Nat.le_refl _, by simp [maxLen], fun e => by simp at e, rfl, fun j hj => ⟨_, _, rfl, ?_⟩⟩
 have hj6 : j < 6 := by simpa [zah] using hj
 rw [Nat.zero_add, World.cell?_alloc_mark]
 simp [zah]
theorem zgl (v : Value) (ps : List (Value × Ent.E)) (w : World) (hv : SlN 6 w v ps.length (zah ps)) (h1 : ∀ y ∈ zah ps, y.oneCell' = true) (hl : ps.length <= 100000) :
 Calls Tryz.prog 53 #[v] w fun x w' => ∃ u, x = .returned u /\ w'.ownsRow w.heap.size 84 6 u ps.length (zah ps) /\ Ext w w' := by
 have hv0 := hv
 obtain ⟨a, cap, rfl, hcap, hmax, hn, hc, hcell⟩ := hv
 have e1 := fun (w : World) (a : Option Addr) (n c : Nat) => Lib.run_eql_slice_nil (P := Tryz.prog) w 61 84 a n c 0 0 Tryz.underlying61
 cases a with
 | none =>
  obtain rfl := hn rfl
  have : ps = [] := List.eq_nil_of_length_eq_zero (by omega)
  subst this
  clear hc hcell hv0
  go_enter Tryz.func53, Tryz.ntmps53
  go_wp2
  go_ret
  exact ⟨_, rfl, World.ownsRow_nil _ _ _ _, Below.refl _ _⟩
 | some ad =>
  have ti := tE
  clear hc hcell
  have hown0 : (w.alloc (.cells #[] 84)).ownsRow w.heap.size 84 6 (.slice (some ⟨w.heap.size, 0, none⟩) 0 0) 0 [] := World.ownsRow_made w #[] 0 (Nat.le_refl _) (by simp [maxLen]) (by simp)
  have hsl := hv0.below (Ext.alloc w (.cells #[] 84))
  have hc1 : 0 + ps.length <= maxLen := by unfold maxLen; omega
  have hc2 : (0 + ps.length) * 64 <= 140737488355328 := by omega
  go_enter Tryz.func53, Tryz.ntmps53
  go_wp2_with (first | (at_builtin; refine zeb rfl (.tmp 5) (.tmp 6) ti rfl rfl rfl hown0 hsl h1 hc1 hc2 (by simp) ?_; intro v2 w2 hown2 hg2))
  go_ret
  exact ⟨_, rfl, by simpa using hown2, ((Below.refl _ w).alloc (Nat.le_refl _) _).grown hg2 (by simp) (fun k hk => (hown0.lt k hk).1)⟩
end Go.Proofs.YtnoeconcpgdjlaaGreat
