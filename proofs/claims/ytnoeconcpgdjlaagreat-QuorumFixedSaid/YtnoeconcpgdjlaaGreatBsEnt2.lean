import Derived.Test.YtnoeconcpgdjlaaGreatRows
import Derived.Test.YtnoeconcpgdjlaaGreatChecked
import Derived.SizedLaws
import Derived.Test.YtnoeconcpgdjlaaGreatBsEnt
import Derived.Test.YtnoeconcpgdjlaaGreatBsPack2
import Derived.Test.YtnoeconcpgdjlaaGreatBsVec
namespace Go.Proofs.YtnoeconcpgdjlaaGreat
set_option linter.unusedSimpArgs false
set_option linter.unusedVariables false
set_option maxRecDepth 100000
open Go.RowKit
theorem cellE {w w' : World} {b o : Nat} {v : Value} (h : Ext w w') (hc : w.cell? ⟨b, o, none⟩ = some v) : w'.cell? ⟨b, o, none⟩ = some v := (h.cell (p := ⟨b, o, none⟩) (World.block_lt_of_cell? w _ hc)).trans hc
def zsk (P : Prop) (w : World) (e : Ending) (w' : World) : Prop := ∃ b : Bool, e = .returned (.bool b) /\ (b = true ↔ P) /\ Ext w w'
theorem zmk {α : Type} {l m : List α} (hl : l.length = m.length) (h : ∀ i (h1 : i < l.length) (h2 : i < m.length), l[i] = m[i]) : l = m := List.ext_getElem hl h
set_option maxHeartbeats 4000000 in
theorem zm0 (v u : Value) (ns ms : List Ent.E) (w : World) (hv : Ents w v ns) (hu : Ents w u ms) :
 Calls Tryz.prog 51 #[v, u, .func (.func 52) #[] #[]] w (zsk (ns = ms) w) := by
 have HV := Hi hv
 have HU := Hi hu
 obtain ⟨a, cap, rfl, hcap, hmax⟩ := hv.shape
 obtain ⟨a2, cap2, rfl, hcap2, hmax2⟩ := hu.shape
 clear hv hu
 by_cases hl : ns.length = ms.length
 . have h1' : ((ns.length : Int) != (ms.length : Int)) = false := by rw [hl]; simp
   obtain ⟨n, hn⟩ : ∃ n, ns.length = n := ⟨_, rfl⟩
   have hm : ms.length = n := by rw [<- hl]; exact hn
   rw [hn, hm] at h1'
   rw [hn] at hcap
   rw [hm] at hcap2
   rw [hn, hm]
   have HL := Hi (And.intro hn hm)
   have HVs := HV
   clear hl hn hm HVs
   go_enter Tryz.func51, Tryz.ntmps51
   go_wp2_with fail
   go_loopw [7, 8, 9, 17] (fun _ _ _ i wr => ∃ k : Nat, k <= n /\ i = .int .i64 k /\ Hid (∀ i, i < k -> ∀ (h1 : i < ns.length) (h2 : i < ms.length), ns[i] = ms[i]) /\ Hid (Ext w wr)) (fun _ _ _ i _ => n - (intOf i).toNat)
   case atStart => exact ⟨0, by omega, rfl, Hi (fun i hi => absurd hi (by omega)), Hi (Ext.refl _)⟩
   case round =>
    obtain ⟨k, hk, rfl, hr, hE⟩ := hrel
    by_cases hlt : k < n
    . have hk1 : k < ns.length := by rw [HL.out.1]; exact hlt
      have hk2 : k < ms.length := by rw [HL.out.2]; exact hlt
      obtain ⟨ra, rc, e', _, _, _, hc⟩ := HV.out.below hE.out
      obtain ⟨b, off, rfl, ta, p0, p1, p2, p3, p4, p5, hta⟩ := hc k hk1
      injection e' with e1 e2 e3
      subst e1
      obtain ⟨ra2, rc2, f', _, _, _, hc2⟩ := HU.out.below hE.out
      obtain ⟨b2, off2, rfl, tb, q0, q1, q2, q3, q4, q5, htb⟩ := hc2 k hk2
      injection f' with f1 f2 f3
      subst f1
      obtain ⟨a1, a2, a3, rfl⟩ := Ints.isSlice hta
      obtain ⟨b1, b2', b3, rfl⟩ := Ints.isSlice htb
      have HE := Hi (And.intro hk1 hk2)
      obtain ⟨A, hA⟩ : ∃ A, ns[k] = A := ⟨_, rfl⟩
      obtain ⟨B, hB⟩ : ∃ B, ms[k] = B := ⟨_, rfl⟩
      rw [hA] at p0 p1 p3 p4 p5 hta
      rw [hB] at q0 q1 q3 q4 q5 htb
      have HAB := Hi (And.intro hA hB)
      have HT := Hi (And.intro hta htb)
      obtain ⟨A0, A1, A2, A3, A4, A5⟩ := A
      obtain ⟨B0, B1, B2, B3, B4, B5⟩ := B
      simp only at p0 p1 p3 p4 p5 q0 q1 q3 q4 q5
      clear hc hc2 e2 e3 f2 f3 hta htb hA hB
      have hEa : Ext wr (wr.alloc (.cells #[.int .i64 A0, .int .i64 A1, .slice a1 a2 a3, .int .i64 A3, .int .i64 A4, .int .i64 A5] 84)) := Ext.alloc _ _
      have hEb : Ext (wr.alloc (.cells #[.int .i64 A0, .int .i64 A1, .slice a1 a2 a3, .int .i64 A3, .int .i64 A4, .int .i64 A5] 84)) ((wr.alloc (.cells #[.int .i64 A0, .int .i64 A1, .slice a1 a2 a3, .int .i64 A3, .int .i64 A4, .int .i64 A5] 84)).alloc (.cells #[.int .i64 B0, .int .i64 B1, .slice b1 b2' b3, .int .i64 B3, .int .i64 B4, .int .i64 B5] 84)) := Ext.alloc _ _
      have HEw := Hi (hEa.trans hEb)
      have HSM := Hi (zfm _ _ ⟨A0, A1, A2, A3, A4, A5⟩ ⟨B0, B1, B2, B3, B4, B5⟩ _ ⟨.slice a1 a2 a3, rfl, HT.out.1.below (hEa.trans hEb)⟩ ⟨.slice b1 b2' b3, rfl, HT.out.2.below (hEa.trans hEb)⟩)
      have r0 := cellE hEa q0
      have r1 := cellE hEa q1
      have r2 := cellE hEa q2
      have r3 := cellE hEa q3
      have r4 := cellE hEa q4
      have r5 := cellE hEa q5
      clear hEa hEb q0 q1 q2 q3 q4 q5
      go_wp2_with fail
      refine HSM.out.mono ?_
      cases hs : Ent.alike ⟨A0, A1, A2, A3, A4, A5⟩ ⟨B0, B1, B2, B3, B4, B5⟩ with
      | true =>
       have HS := Hi ((Ent.alike_iff _ _).1 hs)
       clear hs
       rintro e w2 ⟨rfl, hE2⟩
       have HE2 := Hi (hE.out.trans (HEw.out.trans hE2))
       clear hE2
       go_wp2_with fail
       go_roundw
       case rel =>
        refine ⟨k + 1, by omega, by go_num, Hi fun i hi h1 h2 => ?_, HE2⟩
        rcases Nat.lt_or_ge i k with h | h
        . exact hr.out i h h1 h2
        . obtain rfl : i = k := by omega
          rw [HAB.out.1, HAB.out.2]
          exact HS.out
       case measure => simp [intOf]; omega
      | false =>
       have HS := Hi hs
       clear hs
       rintro e w2 ⟨rfl, hE2⟩
       have HE2 := Hi (hE.out.trans (HEw.out.trans hE2))
       clear hE2
       go_wp2_with fail
       go_ret
       refine ⟨false, rfl, ⟨fun h => (by cases h), fun h => ?_⟩, HE2.out⟩
       have h1 : ns[k]'HE.out.1 = ms[k]'HE.out.2 := by subst h; rfl
       rw [HAB.out.1, HAB.out.2] at h1
       have h2 := HS.out
       rw [(Ent.alike_iff _ _).2 h1] at h2
       cases h2
    . have hs := Hi (zmk (l := ns) (m := ms) (by rw [HL.out.1, HL.out.2]) (fun i h1 h2 => hr.out i (by have := HL.out.1; omega) h1 h2))
      clear hr
      go_wp2_with fail
      go_ret
      exact ⟨true, rfl, ⟨fun _ => hs.out, fun _ => rfl⟩, hE.out⟩
 . have h1' : ((ns.length : Int) != (ms.length : Int)) = true := by rw [bne_iff_ne]; omega
   have HL := Hi hl
   clear hl
   go_enter Tryz.func51, Tryz.ntmps51
   go_wp2_with fail
   go_ret
   exact ⟨false, rfl, ⟨fun h => (by cases h), fun h => absurd (by rw [h]) HL.out⟩, Ext.refl _⟩
end Go.Proofs.YtnoeconcpgdjlaaGreat
namespace Go.Proofs.YtnoeconcpgdjlaaGreat
set_option linter.unusedSimpArgs false
set_option linter.unusedVariables false
set_option maxRecDepth 100000
open Go.ChangeShapes Go.WideShapes Go.ChangeAt Go.RowKit
section
variable {H : Type} {enc : TypeId × Value -> H} {w : World} {base : Nat} {spare : Nat -> Bool} {held : Bool}
end
end Go.Proofs.YtnoeconcpgdjlaaGreat
namespace Go.Proofs.YtnoeconcpgdjlaaGreat
set_option linter.unusedSimpArgs false
set_option linter.unusedVariables false
set_option maxRecDepth 100000
open Go.RowKit
set_option maxHeartbeats 4000000 in
theorem zh3 (v u : Value) (l : List Ent.E) (w : World) (hv : Ents w v l) (hu : Ents w u l) :
 Calls Tryz.prog 17 #[v, u] w fun e w' => e = .returned (.bool true) /\ Ext w w' := by
 have HV := Hi hv
 have HU := Hi hu
 obtain ⟨a, ca, rfl, h1, h2, h3, _⟩ := hv
 obtain ⟨b, cb, rfl, k1, k2, k3, _⟩ := hu
 obtain ⟨n, hn⟩ : ∃ n, l.length = n := ⟨_, rfl⟩
 have hnm : n <= 9223372036854775807 := by unfold maxLen at h2; omega
 rw [hn] at HV HU h1 k1 ⊢
 have HN := Hi hn
 clear hn h2 k2 h3 k3
 go_enter Tryz.func17, Tryz.ntmps17
 go_wp2_with fail
 go_loopw [5] (fun i wr => ∃ k : Nat, k <= n /\ i = .int .i64 k /\ Ext w wr) (fun i _ => n - (intOf i).toNat)
 case atStart => exact ⟨0, by omega, rfl, Ext.refl _⟩
 case round =>
  obtain ⟨k, hk, rfl, hE⟩ := hrel
  by_cases hlt : k < n
  . have hkl : k < l.length := by rw [HN.out]; exact hlt
    have hEd := hE.trans (Ext.drew wr)
    obtain ⟨_, _, e1, _, _, _, hc⟩ := HV.out.below hEd
    obtain ⟨ab, ao, rfl, ta, p0, p1, p2, p3, p4, p5, hta⟩ := hc k hkl
    injection e1 with e1 e2 e3
    subst e1
    obtain ⟨_, _, f1, _, _, _, hd⟩ := HU.out.below hEd
    obtain ⟨bb, bo, rfl, tb, q0, q1, q2, q3, q4, q5, htb⟩ := hd k hkl
    injection f1 with f1 f2 f3
    subst f1
    obtain ⟨a1, a2, a3, rfl⟩ : ∃ x y z, ta = .slice x y z := by
     obtain ⟨x, c, e, _⟩ := hta.open
     exact ⟨x, _, c, e⟩
    obtain ⟨b1, b2, b3, rfl⟩ : ∃ x y z, tb = .slice x y z := by
     obtain ⟨x, c, e, _⟩ := htb.open
     exact ⟨x, _, c, e⟩
    have hsame := zil (entV (.slice a1 a2 a3) l[k]) (entV (.slice b1 b2 b3) l[k]) l[k] l[k] wr.drew ⟨_, rfl, hta⟩ ⟨_, rfl, htb⟩
    rw [Ent.alike_self] at hsame
    simp only [entV] at hsame
    obtain ⟨y0, hy0⟩ : ∃ q : Int, (l[k]).number = q := ⟨_, rfl⟩
    obtain ⟨y1, hy1⟩ : ∃ q : Int, (l[k]).kind = q := ⟨_, rfl⟩
    obtain ⟨y3, hy3⟩ : ∃ q : Int, (l[k]).tag = q := ⟨_, rfl⟩
    obtain ⟨y4, hy4⟩ : ∃ q : Int, (l[k]).term = q := ⟨_, rfl⟩
    obtain ⟨y5, hy5⟩ : ∃ q : Int, (l[k]).pos = q := ⟨_, rfl⟩
    rw [hy0, hy1, hy3, hy4, hy5] at hsame
    rw [hy0] at p0 q0
    rw [hy1] at p1 q1
    rw [hy3] at p3 q3
    rw [hy4] at p4 q4
    rw [hy5] at p5 q5
    have HSAME := Hi hsame
    clear hsame hc hd e2 e3 f2 f3 hta htb hy0 hy1 hy3 hy4 hy5
    go_wp2_with fail
    go_region_law (go_simp; go_at_call 11; refine HSAME.out.mono ?_; rintro e w4 ⟨rfl, hE4⟩)
    all_goals
     have hE5 := hEd.trans hE4
     clear hE4 p0 p1 p2 p3 p4 p5 q0 q1 q2 q3 q4 q5
     go_wp2_with fail
     go_roundw
     case rel => exact ⟨k + 1, by omega, by go_num, hE5⟩
     case measure => simp [intOf]; omega
  . obtain rfl : k = n := by omega
    go_wp2_with fail
    go_ret
    exact ⟨rfl, hE⟩
end Go.Proofs.YtnoeconcpgdjlaaGreat
namespace Go.Proofs.YtnoeconcpgdjlaaGreat
set_option linter.unusedSimpArgs false
set_option linter.unusedVariables false
set_option maxRecDepth 100000
open Go.ChangeShapes Go.WideShapes Go.ChangeAt Go.RowKit
def Seqs (w : World) (v : Value) (l : List (Int × Int)) : Prop :=
 ∃ (a : Option Addr) (cap : Nat), v = .slice a l.length cap /\ l.length <= cap /\ cap <= maxLen /\ (a = none -> cap = 0) /\ ∀ i (h : i < l.length), ∃ b off, a = some ⟨b, off, none⟩ /\ w.cell? ⟨b, off + i * 2, none⟩ = some (.int .i64 l[i].1) /\ w.cell? ⟨b, off + i * 2 + 1, none⟩ = some (.int .i64 l[i].2)
theorem Seqs.below {w w' : World} {v : Value} {l : List (Int × Int)} (h : Seqs w v l) (hb : Below w.heap.size w w') : Seqs w' v l := by
 obtain ⟨a, cap, rfl, h1, h2, h4, h3⟩ := h
 refine ⟨a, cap, rfl, h1, h2, h4, fun i hi => ?_⟩
 obtain ⟨b, off, e, hc, hd⟩ := h3 i hi
 have hlt := World.block_lt_of_cell? _ _ hc
 exact ⟨b, off, e, (hb.cell (p := ⟨b, off + i * 2, none⟩) hlt).trans hc, (hb.cell (p := ⟨b, off + i * 2 + 1, none⟩) hlt).trans hd⟩
theorem Seqs.shape {w : World} {v : Value} {l : List (Int × Int)} (h : Seqs w v l) : ∃ a c, v = .slice a l.length c /\ l.length <= c /\ c <= 9223372036854775807 := by
 obtain ⟨a, cap, rfl, h1, h2, _⟩ := h
 unfold maxLen at h2
 exact ⟨a, cap, rfl, h1, h2⟩
section
variable {H : Type} {enc : TypeId × Value -> H} {w : World} {base : Nat} {spare : Nat -> Bool} {held : Bool}
end
end Go.Proofs.YtnoeconcpgdjlaaGreat
namespace Go.Proofs.YtnoeconcpgdjlaaGreat
set_option linter.unusedSimpArgs false
set_option linter.unusedVariables false
set_option maxRecDepth 100000
open Go.RowKit
theorem SlN.takeE {w : World} {a : Option Addr} {n cap : Nat} {ps : List (Value × Ent.E)} (h : SlN 6 w (.slice a n cap) ps.length (zah ps)) (k : Nat) (hk : k <= ps.length) : SlN 6 w (.slice a k cap) (ps.take k).length (zah (ps.take k)) := by
 obtain ⟨a', cap', e, h1, h2, h3, h4, h5⟩ := h
 injection e with e1 e2 e3
 subst e1 e2 e3
 have hl : (ps.take k).length = k := by rw [List.length_take]; omega
 have hfl : zah ps = zah (ps.take k) ++ zah (ps.drop k) := by rw [<- zbm, List.take_append_drop]
 rw [hl]
 refine ⟨_, _, rfl, by omega, h2, h3, by rw [zdx, hl], fun j hj => ?_⟩
 have hj2 : j < (zah ps).length := by rw [hfl, List.length_append]; omega
 obtain ⟨b, o, e, hc⟩ := h5 j hj2
 refine ⟨b, o, e, hc.trans ?_⟩
 congr 1
 simp only [hfl]
 exact List.getElem_append_left hj
end Go.Proofs.YtnoeconcpgdjlaaGreat
