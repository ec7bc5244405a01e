import Derived.Defers
import Derived.Laws.Pointers
import Derived.Laws.LoneSync
import Derived.RegionTactic
import Derived.RegionCalls
import Derived.ChangeAlike
import Derived.Test.YtnoeconcpgdjlaaGreatBsCrcFill
set_option linter.unusedSimpArgs false
set_option linter.unusedVariables false
namespace Go.Proofs.YtnoeconcpgdjlaaGreat
set_option maxRecDepth 100000
open Go.RowKit
theorem disable (w : World) : (callFunc 182 #[]).run Tryz.prog w = .ok (.value (.tuple #[])) w := run_call_mark0 Tryz.func182 (by kernel_rfl) (by kernel_rfl) (by kernel_rfl) .disable (by kernel_rfl) w
theorem enable (w : World) : (callFunc 184 #[]).run Tryz.prog w = .ok (.value (.tuple #[])) w := run_call_mark0 Tryz.func184 (by kernel_rfl) (by kernel_rfl) (by kernel_rfl) .enable (by kernel_rfl) w
theorem acquire (a : Addr) (w : World) : (callFunc 185 #[.pointer (some a)]).run Tryz.prog w = .ok (.value (.tuple #[])) w := run_call_marked Tryz.func185 (by kernel_rfl) (by kernel_rfl) (by kernel_rfl) .acquire (by kernel_rfl) a w
theorem releaseMerge (a : Addr) (w : World) : (callFunc 187 #[.pointer (some a)]).run Tryz.prog w = .ok (.value (.tuple #[])) w := run_call_marked Tryz.func187 (by kernel_rfl) (by kernel_rfl) (by kernel_rfl) .releaseMerge (by kernel_rfl) a w
theorem zgc (a : Addr) (x : Value) (u : FrameMode) (w : World) (hc : w.cell? a = some x) (hz : w.frozen? a = false) :
 CallsD Tryz.prog 177 #[.pointer (some a), .bool true] u w fun e u' w' => u' = u /\ (e = .returned (.tuple #[]) /\ w' = w.drew.setCell a (.int .u32 1)) := by
 have hc' : w.drew.cell? a = some x := by go_simp
 have hz' : w.drew.frozen? a = false := by go_simp
 have hst := run_call_store (P := Tryz.prog) Tryz.func180 (by kernel_rfl) (by kernel_rfl) (by kernel_rfl) (by kernel_rfl) (k := .u32) (y := 1) hc' hz'
 go_enter_d Tryz.func177, Tryz.ntmps177
 go_wp2
 go_region_calls
 all_goals (go_end0; exact ⟨rfl, rfl⟩)
theorem zf6 (a : Addr) (u : FrameMode) (w : World) (hc : w.cell? a = some (.int .i32 1)) (hz : w.frozen? a = false) :
 CallsD Tryz.prog 176 #[.pointer (some a)] u w fun e u' w' => u' = u /\ (e = .returned (.tuple #[]) /\ w' = w.setCell a (.int .i32 0)) := by
 have hd := disable
 have he := enable
 have hr := releaseMerge
 have hadd := run_call_add (P := Tryz.prog) Tryz.func188 (by kernel_rfl) (by kernel_rfl) (by kernel_rfl) .i32 (by kernel_rfl) (y := -1) (s := 0) hc hz (by simp [go_sem]; rfl)
 have hcv := run_convert_to_unsafe (P := Tryz.prog) (src := 261) (dst := 265) Tryz.underlying261 Tryz.underlying265 (by kernel_rfl) hc
 go_enter_d Tryz.func176, Tryz.ntmps176
 go_wp2
 go_end0
 go_wp2
 go_end0
 exact ⟨rfl, rfl⟩
theorem znq (a : Addr) (w : World) (hc : w.cell? a = some (.int .i32 0)) (hz : w.frozen? a = false) :
 Calls Tryz.prog 175 #[.pointer (some a)] w fun e w' => e = .returned (.tuple #[]) /\ w' = w.setCell a (.int .i32 1) := by
 have hd := disable
 have he := enable
 have ha := acquire
 have hcas := run_call_cas_hit (P := Tryz.prog) Tryz.func183 (by kernel_rfl) (by kernel_rfl) (by kernel_rfl) .i32 (by kernel_rfl) (y := 1) hc hz
 have hc' : (w.setCell a (.int .i32 1)).cell? a = some (.int .i32 1) := World.cell?_setCell_same w a _ hc
 have hcv := run_convert_to_unsafe (P := Tryz.prog) (src := 261) (dst := 265) Tryz.underlying261 Tryz.underlying265 (by kernel_rfl) hc'
 go_enter Tryz.func175, Tryz.ntmps175
 go_wp2
 first | go_end0 | (simp only [Exit.inBlock, Exit.then]; refine bodyPost_ret (results_none rfl _ _ _) rfl ?_) | refine bodyPost_ret (results_none rfl _ _ _) rfl ?_
 go_wp2
 go_end0
 exact ⟨rfl, rfl⟩
def zax (d : Nat) (f : Nat -> Nat) (c : Int) : List Value :=
 [.int .u32 (d : Int), .int .i32 0, .int .u32 0] ++ (List.range 256).map (fun i => Value.int .u32 (f i : Int)) ++ [.int .i64 c]
theorem zdk (d : Nat) (f : Nat -> Nat) (c : Int) : (zax d f c).length = 260 := by simp [zax]
theorem ze9 (d : Nat) (f : Nat -> Nat) (c : Int) (i : Nat) (h : i < 3) : (zax d f c)[i]? = [Value.int .u32 (d : Int), .int .i32 0, .int .u32 0][i]? := by
 unfold zax
 rw [List.append_assoc, List.getElem?_append_left (by simpa using h)]
theorem zc0 (d : Nat) (f : Nat -> Nat) (c : Int) (i : Nat) (h : i < 256) : (zax d f c)[3 + i]? = some (.int .u32 (f i : Int)) := by
 unfold zax
 rw [List.append_assoc, List.getElem?_append_right (by simp), List.getElem?_append_left (by simp; omega)]
 simp [h]
theorem zcr (d : Nat) (f : Nat -> Nat) (c : Int) : (zax d f c)[259]? = some (.int .i64 c) := by
 unfold zax
 rw [List.getElem?_append_right (by simp)]
 simp
def Tab (w : World) (p d : Nat) (c : Int) : Prop := w.heap[p]? = some (.cells (zax d (fun i => if d = 1 then Crc.steps 8 i else 0) c).toArray 234 (0, 0))
theorem Tab.cell {w : World} {p d : Nat} {c : Int} (h : Tab w p d c) (i : Nat) : w.cell? ⟨p, i, none⟩ = (zax d (fun i => if d = 1 then Crc.steps 8 i else 0) c)[i]? := by
 rw [zaa h]; simp
theorem Tab.frozen {w : World} {p d : Nat} {c : Int} (h : Tab w p d c) (i : Nat) : w.frozen? ⟨p, i, none⟩ = false := zac h i
theorem Tab.done {w : World} {p d : Nat} {c : Int} (h : Tab w p d c) : w.cell? ⟨p, 0, none⟩ = some (.int .u32 (d : Int)) := by rw [h.cell, ze9 _ _ _ _ (by omega)]; rfl
theorem Tab.state {w : World} {p d : Nat} {c : Int} (h : Tab w p d c) : w.cell? ⟨p, 1, none⟩ = some (.int .i32 0) := by rw [h.cell, ze9 _ _ _ _ (by omega)]; rfl
theorem Tab.step {w : World} {p : Nat} {c : Int} (h : Tab w p 1 c) (i : Nat) (hi : i < 256) : w.cell? ⟨p, 3 + i, none⟩ = some (.int .u32 (Crc.steps 8 i : Nat)) := by rw [h.cell, zc0 _ _ _ _ hi]; simp
theorem Tab.count {w : World} {p d : Nat} {c : Int} (h : Tab w p d c) : w.cell? ⟨p, 259, none⟩ = some (.int .i64 c) := by rw [h.cell, zcr]
set_option maxRecDepth 100000 in
set_option maxHeartbeats 1600000 in
theorem zrr (p : Nat) (c : Int) (w : World) (h : Tab w p 0 c) :
 Calls Tryz.prog 172 #[.pointer (some ⟨p, 0, none⟩), .func (.func 170) #[.pointer (some ⟨p, 0, none⟩)] #[]] w fun e w' => e = .returned (.tuple #[]) /\ But p w w' /\ Tab w' p 1 c := by
 have h0 := h.done
 have h1 := h.state
 have f0 := h.frozen 0
 have f1 := h.frozen 1
 have hh1 := heap_setCell h 1 (.int .i32 1)
 have hl := run_call_load (P := Tryz.prog) Tryz.func174 (by kernel_rfl) (by kernel_rfl) (by kernel_rfl) .u32 (by kernel_rfl) (w := w.setCell ⟨p, 1, none⟩ (.int .i32 1)) (a := ⟨p, 0, none⟩) (x := 0) ((World.cell?_setCell_other _ ⟨p, 1, none⟩ ⟨p, 0, none⟩ _ (by simp)).trans h0)
 have hnot : ∀ (x : Bool) (w : World), (Op.unary .not (.bool x)).run Tryz.prog w = .ok (.bool (!x)) w := fun _ _ => rfl
 have hfill := zr2 p _ (w.setCell ⟨p, 1, none⟩ (.int .i32 1)) hh1 (by simp [zdk]) (fun i hi => by
  rw [Array.getElem?_setIfInBounds_ne (by omega)]
  have := zc0 0 (fun i => if (0 : Nat) = 1 then Crc.steps 8 i else 0) c i hi
  simpa using this)
 have HF := Hi hfill
 have HH := Hi hh1
 clear hfill hh1
 go_enter_defers Tryz.func172, Tryz.ntmps172
 go_wp2_with (first | (go_at_call 175; refine (znq ⟨p, 1, none⟩ _ (by go_simp) (by go_simp)).mono ?_; rintro e w' ⟨rfl, rfl⟩) | (go_at_call 171; go_in) | (go_at_call 170; refine HF.out.mono ?_; rintro e w' ⟨rfl, hb, cs, hcs, hfl⟩))
 refine leaves_cons (f := 177) (args := #[.pointer (some ⟨p, 0, none⟩), .bool true]) (by simp) (by simp [go_sem]) ?_
 have e0 : cs[0]? = some (.int .u32 0) := by rw [hfl.rest 0 (by omega)]; simp [zax]
 have e1 : cs[1]? = some (.int .i32 1) := by rw [hfl.rest 1 (by omega)]; simp [zax]
 have e2 : cs[2]? = some (.int .u32 0) := by rw [hfl.rest 2 (by omega)]; simp [zax]
 have e3 : cs[259]? = some (.int .i64 c) := by
  rw [hfl.rest 259 (by omega), Array.getElem?_setIfInBounds_ne (by omega)]
  have := zcr 0 (fun i => if (0 : Nat) = 1 then Crc.steps 8 i else 0) c
  simpa using this
 refine (zgc ⟨p, 0, none⟩ (.int .u32 0) .returning _ (by rw [zaa hcs]; exact e0) (by rw [zac hcs])).mono ?_
 rintro e u' w'' ⟨rfl, rfl, rfl⟩
 have hc2 := heap_setCell (w := w'.drew) hcs 0 (.int .u32 1)
 refine leaves_cons (f := 176) (args := #[.pointer (some ⟨p, 1, none⟩)]) (by simp [settle]) (by simp [go_sem]) ?_
 refine (zf6 ⟨p, 1, none⟩ _ _ (by rw [zaa hc2, Array.getElem?_setIfInBounds_ne (by omega)]; exact e1) (by rw [zac hc2])).mono ?_
 rintro e u' w'' ⟨rfl, rfl, rfl⟩
 have hc3 := heap_setCell hc2 1 (.int .i32 0)
 have hfin : Tab ((w'.drew.setCell ⟨p, 0, none⟩ (.int .u32 1)).setCell ⟨p, 1, none⟩ (.int .i32 0)) p 1 c := by
  unfold Tab
  rw [hc3]
  congr 2
  have hsz : cs.size = 260 := hfl.size
  suffices key : ∀ i, ((cs.setIfInBounds 0 (.int .u32 1)).setIfInBounds 1 (.int .i32 0))[i]? = (zax 1 (fun i => if 1 = 1 then Crc.steps 8 i else 0) c)[i]? by
   apply Array.ext_getElem?
   intro i
   refine (key i).trans ?_
   rw [List.getElem?_toArray]
  intro i
  by_cases hi0 : i = 0
  . subst hi0; rw [Array.getElem?_setIfInBounds_ne (by omega), Array.getElem?_setIfInBounds_self]; simp [hsz, zax]
  . by_cases hi1 : i = 1
    . subst hi1; rw [Array.getElem?_setIfInBounds_self]; simp [hsz, zax]
    . rw [Array.getElem?_setIfInBounds_ne (by omega), Array.getElem?_setIfInBounds_ne (by omega)]
      by_cases hi2 : i = 2
      . subst hi2; rw [e2]; simp [zax]
      . by_cases hi3 : i < 259
        . obtain ⟨j, rfl⟩ : ∃ j, i = 3 + j := ⟨i - 3, by omega⟩
          obtain ⟨x, hx, _, hx2⟩ := hfl.all j (by omega)
          rw [hx, zc0 _ _ _ _ (by omega), hx2 (Nat.mod_one j)]
          simp
        . by_cases hi4 : i = 259
          . subst hi4; rw [e3, zcr]
          . rw [Array.getElem?_eq_none (by omega), List.getElem?_eq_none (by rw [zdk]; omega)]
 have hbut : But p w ((w'.drew.setCell ⟨p, 0, none⟩ (.int .u32 1)).setCell ⟨p, 1, none⟩ (.int .i32 0)) :=
  ((But.drew p (((But.refl p w).setCell 1 none (.int .i32 1)).trans hb)).setCell 0 none (.int .u32 1)).setCell 1 none (.int .i32 0)
 simp [Leaves, settle, results, Tryz.results172]
 exact ⟨hbut, hfin⟩
set_option maxRecDepth 100000 in
set_option maxHeartbeats 1600000 in
theorem zqx (p : Nat) (c : Int) (w : World) (h : Tab w p 0 c) :
 Calls Tryz.prog 169 #[.pointer (some ⟨p, 0, none⟩), .func (.func 170) #[.pointer (some ⟨p, 0, none⟩)] #[]] w fun e w' => e = .returned (.tuple #[]) /\ But p w w' /\ Tab w' p 1 c := by
 have hl := run_call_load (P := Tryz.prog) Tryz.func174 (by kernel_rfl) (by kernel_rfl) (by kernel_rfl) .u32 (by kernel_rfl) h.done
 have hnot : ∀ (x : Bool) (w : World), (Op.unary .not (.bool x)).run Tryz.prog w = .ok (.bool (!x)) w := fun _ _ => rfl
 go_enter Tryz.func169, Tryz.ntmps169
 go_wp2_with (first | (go_at_call 172; refine (zrr p c _ h).mono ?_; rintro e w' ⟨rfl, hb, ht⟩) | (go_at_call 171; go_in))
 go_end0
 exact ⟨rfl, hb, ht⟩
set_option maxHeartbeats 1600000 in
theorem zsq (p : Nat) (c : Int) (fv : Value) (w : World) (h : Tab w p 1 c) :
 Calls Tryz.prog 169 #[.pointer (some ⟨p, 0, none⟩), fv] w fun e w' => e = .returned (.tuple #[]) /\ w = w' := by
 have hl := run_call_load (P := Tryz.prog) Tryz.func174 (by kernel_rfl) (by kernel_rfl) (by kernel_rfl) .u32 (by kernel_rfl) h.done
 have hnot : ∀ (x : Bool) (w : World), (Op.unary .not (.bool x)).run Tryz.prog w = .ok (.bool (!x)) w := fun _ _ => rfl
 clear h
 go_enter Tryz.func169, Tryz.ntmps169
 go_wp2
 go_end0
 exact ⟨rfl, rfl⟩
end Go.Proofs.YtnoeconcpgdjlaaGreat
