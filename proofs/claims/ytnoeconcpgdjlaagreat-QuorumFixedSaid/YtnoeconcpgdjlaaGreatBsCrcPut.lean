import Derived.Deep.DeepCutAuto
import Derived.Deep.RegionHeld3
import Derived.Laws.Cover3
import Derived.Test.YtnoeconcpgdjlaaGreatBsCrcCode
import Derived.Test.YtnoeconcpgdjlaaGreatBsLib
namespace Go.Proofs.YtnoeconcpgdjlaaGreat
set_option linter.unusedSimpArgs false
set_option linter.unusedVariables false
set_option maxRecDepth 100000
open Go.RowKit
theorem tU8c : ElemOf Tryz.prog 141 5 (.int .u8 0) 1 := ⟨Tryz.underlying141, by kernel_rfl, rfl⟩
theorem Rows.made {w : World} {v : Value} {l : List UInt8} (e : TypeId) (h : Bytes w v l) : Rows (w.alloc (.cells #[v] e)) (.slice (some ⟨w.heap.size, 0, none⟩) 1 1) [l] :=
 ⟨[v], Sl.made w [v] e 1 rfl (by simp [maxLen]), rfl, fun i h1 h2 => by
  have : i = 0 := by simpa using h1
  subst this
  exact h.below (Ext.alloc w _)⟩
def zsh (p : Nat) (c : Int) (w : World) (l : List UInt8) (e : Ending) (w' : World) : Prop := ∃ v d, e = .returned v /\ w'.ownsRow w.heap.size 5 1 v l.length (u8s l) /\ But p w w' /\ (d = 0 \/ d = 1) /\ Tab w' p d c
set_option maxRecDepth 100000 in
set_option maxHeartbeats 1000000 in
theorem zk3 (p d : Nat) (c : Int) (v : Value) (l : List UInt8) (w : World) (ht : Tab w p d c) (hd : d = 0 \/ d = 1) (hv : Bytes w v l) (hl : l.length <= 100000) :
 Calls Tryz.prog 149 #[.pointer (some ⟨p, 0, none⟩), v] w (zsh p (bump c) w (l ++ Crc.low (Crc.sum l))) := by
 have HV := Hi hv
 have HT := Hi ht
 have hpw : p < w.heap.size := by
  have := ht.done
  exact World.block_lt_of_cell? w _ this
 obtain ⟨a, cap, rfl, hcap, hmax, _, hcl⟩ := hv.open
 unfold maxLen at hmax
 have hrow := Rows.made 141 hv
 have hs := Crc.more_lt 0 l
 have hta : Tab (w.alloc (.cells #[.slice a l.length cap] 141)) p d c := by
  unfold Tab at ht ⊢
  rw [Below.heap_alloc _ _ _ hpw]; exact ht
 have HR := Hi hrow
 clear hcl hv hrow ht
 go_enter Tryz.func149, Tryz.ntmps149
 go_wp2_with (first | (go_at_call 158; refine (znm p d c _ [l] _ hta hd HR.out).mono ?_; rintro e w1 ⟨rfl, hb1, d1, hd1, ht1⟩; rw [List.flatten_singleton]) | (go_at_call 157; refine (zpd (Crc.sum l) _ hs).mono ?_; rintro e w2 ⟨b0, b1, b2, b3, rfl, hlow, hb2⟩) | (at_make; refine zh5 rfl _ _ tU8c rfl w.heap.size (l.length + 4) rfl rfl ?k1 ?k2 ?k3 ?k4 ?_; rotate_right; intro w3 hown3 hg3))
 case k1 => omega
 case k2 => omega
 case k3 => simp [maxLen]; omega
 case k4 => have h1 := hb1.size; have h2 := hb2.size; simp only [World.size_alloc] at h1 ⊢; omega
 have hsz1 := hb1.size
 have hsz2 := hb2.size
 simp only [World.size_alloc] at hsz1
 obtain ⟨ztp, hcells4⟩ : ∃ x, x = [Value.int .u8 (b0.toNat : Int), .int .u8 (b1.toNat : Int), .int .u8 (b2.toNat : Int), .int .u8 (b3.toNat : Int)] := ⟨_, rfl⟩
 have hb3 : Ext w2 w3 := by
  have := Ext.alloc w2 (.cells #[.int .u8 (b0.toNat : Int), .int .u8 (b1.toNat : Int), .int .u8 (b2.toNat : Int), .int .u8 (b3.toNat : Int)] 235)
  exact this.trans ⟨hg3.os, hg3.tape, hg3.output, hg3.size, fun k hk => hg3.block k hk (by simp)⟩
 have hbw : But p w w3 := ((Ext.but (Ext.alloc w _) p).trans hb1).trans (Ext.but (hb2.trans hb3) p)
 have hsl1 : Sl w3.drew (.slice a l.length cap) (u8s l) := Sl.below (HV.out.but HT.out hbw) (Ext.drew w3)
 have hown3' : w3.drew.ownsRow w.heap.size 5 1 (.slice (some ⟨w2.heap.size + 1, 0, none⟩) 0 (l.length + 4)) 0 [] := by
  have := hown3.drew
  simpa using this
 have hsl2 : ∀ w4 : World, w3.drew.grownBy w4 (some (w2.heap.size + 1)) -> Sl w4 (.slice (some ⟨w2.heap.size, 0, none⟩) 4 4) (u8s [b0, b1, b2, b3]) := by
  intro w4 hg
  have h1 := Sl.made w2 (u8s [b0, b1, b2, b3]) 235 4 (by simp) (by simp [maxLen]) (fr := (0, 0))
  have h2 : w4.heap[w2.heap.size]? = (w2.alloc (.cells (u8s [b0, b1, b2, b3]).toArray 235)).heap[w2.heap.size]? := by
   rw [hg.block _ (by show w2.heap.size < w3.heap.size; have := hg3.size; simp only [World.size_alloc] at this; omega) (by simp)]
   show w3.heap[w2.heap.size]? = _
   exact hg3.block _ (by simp) (by simp)
  obtain ⟨aa, cc, e, q1, q2, q3, q4⟩ := h1
  refine ⟨aa, cc, e, q1, q2, q3, fun i hi => ?_⟩
  obtain ⟨b, off, e2, hc2⟩ := q4 i hi
  refine ⟨b, off, e2, ?_⟩
  have hbb : b = w2.heap.size := by
   injection e with e3
   rw [<- e3] at e2
   injection e2 with e2
   injection e2 with e4
   exact e4.symm
  subst hbb
  rw [World.cell?_of_block (w := w2.alloc (.cells (u8s [b0, b1, b2, b3]).toArray 235)) h2]
  exact hc2
 have hc1 : 0 + (u8s l).length <= maxLen := by simp [maxLen]; omega
 have hc2 : (0 + (u8s l).length) * 1 <= 140737488355328 := by simp; omega
 have hc3 : 0 + (u8s l).length + (u8s [b0, b1, b2, b3]).length <= maxLen := by simp [maxLen]; omega
 have hc4 : (0 + (u8s l).length + (u8s [b0, b1, b2, b3]).length) * 1 <= 140737488355328 := by simp; omega
 have hz3 : w.heap.size <= w3.drew.heap.size := hbw.size
 clear hown3 hcells4
 go_region_held3 (fun _ => True) (trivial) (first | (rw [if_pos (by rfl)]; refine zlp (.tmp 16) (.tmp 17) tU8c rfl rfl rfl hown3' hsl1 (zc5 l) hc1 hc2 hz3 ?_; intro v4 w4 hown4 hg4) | (rw [if_pos (by rfl)]; refine zlp (.tmp 18) (.tmp 19) tU8c rfl rfl rfl hown4 (hsl2 _ hg4) (zc5 _) hc3 hc4 (Nat.le_trans hz3 hg4.size) ?_; intro v5 w5 hown5 hg5))
 go_wp2
 go_ret
 refine ⟨v5, d1, rfl, ?_, ?_, hd1, ?_⟩
 . rw [hlow.out]
   simpa [u8s] using hown5
 . exact ((But.drew p hbw).grown hg4 (fun k hk => (hown3'.lt k hk).1)).grown hg5 (fun k hk => (hown4.lt k hk).1)
 . have hpw3 : p < w3.heap.size := Nat.lt_of_lt_of_le hpw hz3
   have e1 : w3.heap[p]? = w1.heap[p]? := (hb2.trans hb3).block p (Nat.lt_of_lt_of_le hpw (Nat.le_trans (Nat.le_succ _) hsz1))
   have e2 : w4.heap[p]? = w3.heap[p]? := hg4.block p hpw3 (fun e => by have := (hown3'.lt p e.symm).1; omega)
   have e3 : w5.heap[p]? = w4.heap[p]? := hg5.block p (Nat.lt_of_lt_of_le hpw3 hg4.size) (fun e => by have := (hown4.lt p e.symm).1; omega)
   unfold Tab
   rw [e3, e2, e1]
   exact ht1
def zsr (p : Nat) (c : Int) (w : World) (r : Option (List UInt8)) (e : Ending) (w' : World) : Prop :=
 (∃ d, (d = 0 \/ d = 1) /\ Tab w' p d c) /\ But p w w' /\ match r with
   | none => e = .returned (.tuple #[.slice none 0 0, .bool false])
   | some l => ∃ v, e = .returned (.tuple #[v, .bool true]) /\ Bytes w' v l
def znj (p : Nat) (c : Int) (w : World) (r : Option (List UInt8)) (e : Ending) (w' : World) : Prop :=
 (∃ d, (d = 0 \/ d = 1) /\ Tab w' p d c) /\ But p w w' /\ match r with
   | none => e = .returned (.tuple #[.slice none 0 0, .bool false])
   | some l => ∃ v, e = .returned (.tuple #[v, .bool true]) /\ w'.ownsRow w.heap.size 5 1 v l.length (u8s l)
theorem zo4 (l : List UInt8) (h : 4 <= l.length) : l.drop (l.length - 4) = [l[l.length - 4], l[l.length - 3], l[l.length - 2], l[l.length - 1]] := by
 apply List.ext_getElem
 . simp; omega
 . intro i h1 h2
   simp only [List.length_drop] at h1
   have hi : i < 4 := by omega
   rw [List.getElem_drop]
   match i, hi with
   | 0, _ => rfl
   | 1, _ => simp; congr 1; omega
   | 2, _ => simp; congr 1; omega
   | 3, _ => simp; congr 1; omega
set_option maxRecDepth 100000 in
set_option maxHeartbeats 1000000 in
theorem zn2 (p d : Nat) (c : Int) (v : Value) (l : List UInt8) (w : World) (ht : Tab w p d c) (hd : d = 0 \/ d = 1) (hv : Bytes w v l) (hl : l.length <= 200000) :
 Calls Tryz.prog 138 #[.pointer (some ⟨p, 0, none⟩), v] w (znj p (if l.length < 4 then c else bump c) w (Crc.cutOf l)) := by
 have HV := Hi hv
 have HT := Hi ht
 obtain ⟨a, cap, rfl, hcap, hmax, _, hcl⟩ := hv.open
 unfold maxLen at hmax
 by_cases h4 : l.length < 4
 . have hcut : Crc.cutOf l = none := by unfold Crc.cutOf; rw [if_pos h4]
   rw [hcut, if_pos h4]
   clear hcut hcl
   go_enter Tryz.func138, Tryz.ntmps138
   go_wp2
   go_ret2
   exact ⟨⟨d, hd, ht⟩, But.refl _ _, rfl⟩
 . rw [if_neg h4]
   have h4' : 4 <= l.length := by omega
   obtain ⟨b, off, rfl, h0⟩ := hcl 0 (by omega)
   have hS : ∀ w', But p w w' -> (w'.cell? ⟨b, off + (l.length - 4), none⟩ = some (.int .u8 ((l[l.length - 4]).toNat : Int)) /\ w'.cell? ⟨b, off + (l.length - 4) + 1, none⟩ = some (.int .u8 ((l[l.length - 3]).toNat : Int)) ∧
    w'.cell? ⟨b, off + (l.length - 4) + 2, none⟩ = some (.int .u8 ((l[l.length - 2]).toNat : Int)) /\ w'.cell? ⟨b, off + (l.length - 4) + 3, none⟩ = some (.int .u8 ((l[l.length - 1]).toNat : Int))) := by
    intro w' hb
    obtain ⟨a', cap', e', _, _, _, hc1⟩ := (HV.out.but HT.out hb).open
    have key : ∀ i (hi : i < l.length), w'.cell? ⟨b, off + i, none⟩ = some (.int .u8 ((l[i]).toNat : Int)) := by
     intro i hi
     obtain ⟨b', off', e2, hcell⟩ := hc1 i hi
     injection e' with e3
     rw [<- e3] at e2
     injection e2 with e2
     injection e2 with e4 e5
     subst e4 e5
     exact hcell
    refine ⟨key _ (by omega), ?_, ?_, ?_⟩
    . rw [show off + (l.length - 4) + 1 = off + (l.length - 3) from by omega]; exact key _ (by omega)
    . rw [show off + (l.length - 4) + 2 = off + (l.length - 2) from by omega]; exact key _ (by omega)
    . rw [show off + (l.length - 4) + 3 = off + (l.length - 1) from by omega]; exact key _ (by omega)
   clear hcl h0
   go_enter Tryz.func138, Tryz.ntmps138
   go_upto_region 4 with fail
   go_cut [24] (fun s24 wx => But p w wx /\ (∃ d', (d' = 0 \/ d' = 1) /\ Tab wx p d' (bump c)) /\ s24 = .bool (decide (l.take (l.length - 4) ++ Crc.low (Crc.sum (l.take (l.length - 4))) ≠ l)))
   case first =>
    have hcn : ¬ cap = l.length - 4 := by omega
    have hrow : ∀ w' : World, But p w w' -> Rows (w'.alloc (.cells #[.slice (some ⟨b, off, none⟩) (l.length - 4) cap] 141)) (.slice (some ⟨w'.heap.size, 0, none⟩) 1 1) [l.take (l.length - 4)] :=
     fun w' hb => Rows.made 141 ((HV.out.but HT.out hb).take (l.length - 4) (by omega))
    have HR := Hi hrow
    have hSd := hS w.drew (But.drew p (But.refl p w))
    clear hrow
    have heq4 : ∀ (x0 x1 x2 x3 y0 y1 y2 y3 : Int) (w' : World), (Op.equalIn 10000 235 (.agg #[.int .u8 x0, .int .u8 x1, .int .u8 x2, .int .u8 x3]) (.agg #[.int .u8 y0, .int .u8 y1, .int .u8 y2, .int .u8 y3])).run Tryz.prog w' = .ok (x0 == y0 && (x1 == y1 && (x2 == y2 && x3 == y3))) w' := fun x0 x1 x2 x3 y0 y1 y2 y3 w' => zra 9998 Tryz.underlying235 Tryz.underlying5 (by kernel_rfl) x0 x1 x2 x3 y0 y1 y2 y3
    have hpw : p < w.heap.size := World.block_lt_of_cell? w _ ht.done
    have hbd : But p w (w.alloc (.cells #[.slice (some ⟨b, off, none⟩) (l.length - 4) cap] 141)).drew := But.drew p (But.alloc (But.refl p w) _)
    have htd : Tab (w.alloc (.cells #[.slice (some ⟨b, off, none⟩) (l.length - 4) cap] 141)).drew p d c := by
     unfold Tab at ht ⊢
     show (w.alloc _).heap[p]? = _
     rw [Below.heap_alloc _ _ _ hpw]; exact ht
    have hrd : Rows (w.alloc (.cells #[.slice (some ⟨b, off, none⟩) (l.length - 4) cap] 141)).drew (.slice (some ⟨w.heap.size, 0, none⟩) 1 1) [l.take (l.length - 4)] := (HR.out w (But.refl p w)).below (Ext.drew _)
    have hslt := Crc.more_lt 0 (l.take (l.length - 4))
    have hsa : ∀ w' : World, (Instr.sliceAt 141 (.slice (some ⟨b, off, none⟩) l.length cap) (some (.int .i64 ((l.length : Int) - 4))) none none).run Tryz.prog w' = .ok (.slice (some ⟨b, off + (l.length - 4), none⟩) 4 (cap - (l.length - 4))) w' := by
     intro w'
     have e1 : (l.length : Int) - 4 = ((l.length - 4 : Nat) : Int) := by omega
     have e2 : l.length - (l.length - 4) = 4 := by omega
     have := zd7 (P := Tryz.prog) (w := w') Tryz.underlying141 (by kernel_rfl) (a := some ⟨b, off, none⟩) (n := l.length) (cap := cap) (l.length - 4) (by omega) .i64
     rw [e1, this, e2, if_neg hcn]
     simp only [Option.map_some, Addr.add_lit]
    have hsb : ∀ w' : World, (Instr.sliceAt 141 (.slice (some ⟨b, off, none⟩) l.length cap) none (some (.int .i64 ((l.length : Int) - 4))) none).run Tryz.prog w' = .ok (.slice (some ⟨b, off, none⟩) (l.length - 4) cap) w' := by
     intro w'
     have e1 : (l.length : Int) - 4 = ((l.length - 4 : Nat) : Int) := by omega
     rw [e1]
     exact zet (P := Tryz.prog) Tryz.underlying141 (by kernel_rfl) _ (by omega) .i64
    have harr : ∀ w' : World, (Instr.arrayAt 235 (.slice (some ⟨b, off + (l.length - 4), none⟩) 4 (cap - (l.length - 4)))).run Tryz.prog w' = .ok (.pointer (some ⟨b, off + (l.length - 4), none⟩)) w' := fun w' => run_arrayAt w' 235 5 4 _ 4 _ Tryz.underlying235 (by omega)
    go_region_held3 (fun w' => w'.cell? ⟨b, off + (l.length - 4), none⟩ = some (.int .u8 ((l[l.length - 4]).toNat : Int)) /\ w'.cell? ⟨b, off + (l.length - 4) + 1, none⟩ = some (.int .u8 ((l[l.length - 3]).toNat : Int)) /\ w'.cell? ⟨b, off + (l.length - 4) + 2, none⟩ = some (.int .u8 ((l[l.length - 2]).toNat : Int)) /\ w'.cell? ⟨b, off + (l.length - 4) + 3, none⟩ = some (.int .u8 ((l[l.length - 1]).toNat : Int))) (first | exact hSd | exact hS _ (by assumption) | exact hS _ (But.alloc (But.drew p (But.refl p w)) _)) (first | (go_at_call 158; refine (znm p d c _ [l.take (l.length - 4)] _ htd hd hrd).mono ?_; rintro e w1 ⟨rfl, hb1, d1, hd1, ht1⟩; rw [List.flatten_singleton]; have hbw := hbd.trans hb1) | (go_at_call 157; refine (zpd (Crc.sum (l.take (l.length - 4))) _ hslt).mono ?_; rintro e w2 ⟨b0, b1, b2, b3, rfl, hlow, hb2⟩; have hbw2 := hbw.trans (Ext.but hb2 p)))
    all_goals
     go_wp2_with fail
     go_meet
     refine ⟨hbw2, ⟨d1, hd1, ?_⟩, congrArg Value.bool ?_⟩
     . unfold Tab at ht1 ⊢
       rw [hb2.block p (World.block_lt_of_cell? w1 _ (Tab.done ht1))]; exact ht1
     . have hsplit : l = l.take (l.length - 4) ++ [l[l.length - 4], l[l.length - 3], l[l.length - 2], l[l.length - 1]] := by
        conv => lhs; rw [<- List.take_append_drop (l.length - 4) l]
        rw [zo4 l h4']
       rw [Bool.eq_iff_iff]
       simp only [Bool.or_eq_true, Bool.not_eq_true', decide_eq_true_eq, beq_eq_false_iff_ne, ne_eq]
       rw [hlow.out]
       conv => rhs; rw [show (l.take (l.length - 4) ++ [b0, b1, b2, b3] = l) = (l.take (l.length - 4) ++ [b0, b1, b2, b3] = l.take (l.length - 4) ++ [l[l.length - 4], l[l.length - 3], l[l.length - 2], l[l.length - 1]]) from congrArg _ hsplit]
       rw [List.append_cancel_left_eq]
       simp only [List.cons.injEq, and_true]
       have key : ∀ x y : UInt8, ((x.toNat : Int) = (y.toNat : Int)) ↔ y = x := fun x y => ⟨fun h => (UInt8.toNat_inj.mp (by omega)), fun h => by rw [h]⟩
       rw [key, key, key, key]
       constructor
       . intro h hh
         obtain ⟨h0, h1, h2, h3⟩ := hh
         rcases h with h | h | h | h <;> contradiction
       . intro h
         by_cases q0 : b0 = l[l.length - 4]
         . by_cases q1 : b1 = l[l.length - 3]
           . by_cases q2 : b2 = l[l.length - 2]
             . exact Or.inr (Or.inr (Or.inr fun q3 => h ⟨q0, q1, q2, q3⟩))
             . exact Or.inr (Or.inr (Or.inl q2))
           . exact Or.inr (Or.inl q1)
         . exact Or.inl q0
   case rest =>
    obtain ⟨hbc, ⟨d', hd', htc⟩, rfl⟩ := hcut
    by_cases hq : l.take (l.length - 4) ++ Crc.low (Crc.sum (l.take (l.length - 4))) = l
    . have hcut : Crc.cutOf l = some (l.take (l.length - 4)) := by unfold Crc.cutOf; rw [if_neg h4, if_pos hq]
      have hdd : decide (l.take (l.length - 4) ++ Crc.low (Crc.sum (l.take (l.length - 4))) ≠ l) = false := by simp [hq]
      rw [hdd]
      have hsb : ∀ w' : World, (Instr.sliceAt 141 (.slice (some ⟨b, off, none⟩) l.length cap) none (some (.int .i64 ((l.length : Int) - 4))) none).run Tryz.prog w' = .ok (.slice (some ⟨b, off, none⟩) (l.length - 4) cap) w' := by
       intro w'
       have e1 : (l.length : Int) - 4 = ((l.length - 4 : Nat) : Int) := by omega
       rw [e1]
       exact zet (P := Tryz.prog) Tryz.underlying141 (by kernel_rfl) _ (by omega) .i64
      have hsl : Sl wc (.slice (some ⟨b, off, none⟩) (l.length - 4) cap) (u8s (l.take (l.length - 4))) := (HV.out.but HT.out hbc).take (l.length - 4) (by omega)
      have hc1 : 0 + (u8s (l.take (l.length - 4))).length <= maxLen := by simp [maxLen]; omega
      have hc2 : (0 + (u8s (l.take (l.length - 4))).length) * 1 <= 140737488355328 := by simp; omega
      have HC := Hi hcut
      clear hq hdd hcut hS
      go_wp2_with (at_builtin; refine zcg rfl (.const (.slice none 0 0)) (.tmp 27) tU8c rfl (base := w.heap.size) (v := .slice none 0 0) (n := 0) (xs := []) rfl rfl (World.ownsRow_nil _ _ _ _) hsl (zc5 _) hc1 hc2 hbc.size ?_; intro v1 w1 hown1 hg1)
      go_ret2
      have hpw : p < w.heap.size := World.block_lt_of_cell? w _ (Tab.done HT.out)
      refine ⟨⟨d', hd', ?_⟩, hbc.grown hg1 (by intro k hk; simp [Value.ownBlock] at hk), ?_⟩
      . unfold Tab at htc ⊢
        rw [hg1.block p (Nat.lt_of_lt_of_le hpw hbc.size) (by simp [Value.ownBlock])]; exact htc
      . rw [HC.out]
        exact ⟨_, rfl, by simpa using hown1⟩
    . have hcut : Crc.cutOf l = none := by unfold Crc.cutOf; rw [if_neg h4, if_neg hq]
      have hdd : decide (l.take (l.length - 4) ++ Crc.low (Crc.sum (l.take (l.length - 4))) ≠ l) = true := by simp [hq]
      rw [hdd]
      have HC := Hi hcut
      clear hq hdd hcut hS
      go_wp2
      go_ret2
      exact ⟨⟨d', hd', htc⟩, hbc, by rw [HC.out]; rfl⟩
theorem zs3 (p d : Nat) (c : Int) (v : Value) (l : List UInt8) (w : World) (ht : Tab w p d c) (hd : d = 0 \/ d = 1) (hv : Bytes w v l) (hl : l.length <= 200000) :
 Calls Tryz.prog 138 #[.pointer (some ⟨p, 0, none⟩), v] w (zsr p (if l.length < 4 then c else bump c) w (Crc.cutOf l)) :=
 (zn2 p d c v l w ht hd hv hl).mono fun e w' ⟨h1, h2, h3⟩ => by
   refine ⟨h1, h2, ?_⟩
   revert h3
   cases Crc.cutOf l with
   | none => exact id
   | some m => exact fun ⟨u, he, ho⟩ => ⟨u, he, Sl.ofOwn ho⟩
end Go.Proofs.YtnoeconcpgdjlaaGreat
