/-
 Merged: Layer 1, the program: the table is filled; sync; Layer 1, the program: each method's contract, over a table in a block of its own; Layer 1, the program: Put and Cut; Layer 1, the document's own answers: each call's contract; Layer 1, the statements' own small call: a sum that the document fixes.
-/
import Derived.Test.YtldfpklgbedgjaaGreatProg
import Derived.Defers
import Derived.Laws.Pointers
import Derived.Laws.LoneSync
import Derived.RegionTactic
import Derived.RegionCalls
import Derived.ChangeAlike
import Derived.Deep.DeepCutAuto
import Derived.Deep.RegionHeld3
import Derived.Laws.Cover3
import Derived.Lib.SlBytesConst
import Derived.Test.YtldfpklgbedgjaaGreatBrLib
import Derived.Test.YtldfpklgbedgjaaGreatBrMath
set_option linter.unusedSimpArgs false
set_option linter.unusedVariables false
namespace Go.Proofs.YtldfpklgbedgjaaGreat
set_option maxRecDepth 100000
open Go.RowKit
theorem ret_u32' {a b : Int} (h : a = b) : Ending.returned (.int .u32 a) = .returned (.int .u32 b) := by rw [h]
set_option maxHeartbeats 400000 in
theorem shift_any (n : Nat) (w : World) (h : n < 4294967296) :
 Calls Tryz.prog 144 #[.int .u32 (n : Int)] w fun e w' => e = .returned (.int .u32 (Crc.step n : Int)) ∧ w = w' := by
 have hd : ((n : Int) / 2) = ((n / 2 : Nat) : Int) := by omega
 have hxx : bits .xor .u32 ((n : Int) / 2) 3988292384 = (((n / 2) ^^^ 3988292384 : Nat) : Int) := by rw [hd]; exact u32_xor_nat _ 3988292384 (by omega) (by decide)
 have hand : bits .and .u32 (n : Int) 1 = ((n &&& 1 : Nat) : Int) := u32_and_nat n 1 h (by decide)
 have hm : n &&& 1 = n % 2 := Nat.and_one_is_mod n
 have HX := Lib.hid hxx
 have HD := Lib.hid hd
 clear hxx hd
 by_cases ho : n % 2 = 1
 · have hb : (bits .and .u32 (n : Int) 1 == 1) = true := by rw [hand, hm, ho]; rfl
   have he : Hid (Crc.step n = (n / 2) ^^^ 3988292384) := by unfold Crc.step Hid; rw [if_pos ho]
   clear hand hm ho
   go_enter Tryz.func144, Tryz.ntmps144
   go_wp2
   go_ret
   exact ⟨ret_u32' (by rw [HX.out, he.out]), rfl⟩
 · have h0 : n % 2 = 0 := by omega
   have hb : (bits .and .u32 (n : Int) 1 == 1) = false := by rw [hand, hm, h0]; rfl
   have he : Hid (Crc.step n = n / 2) := by unfold Crc.step Hid; rw [if_neg ho]
   clear hand hm ho h0
   go_enter Tryz.func144, Tryz.ntmps144
   go_wp2
   go_ret
   exact ⟨ret_u32' (by rw [HD.out, he.out]), rfl⟩
structure Filled (cs cs0 : Array Value) (m : Nat) : Prop where
 size : cs.size = 260
 all : ∀ i, i < 256 → ∃ x : Nat, cs[3 + i]? = some (.int .u32 (x : Int)) ∧ x < 4294967296 ∧ (i % m = 0 → x = Crc.steps 8 i)
 rest : ∀ i, i < 3 ∨ 259 ≤ i → cs[i]? = cs0[i]?
structure Mid (cs cs0 : Array Value) (b lim : Nat) : Prop where
 size : cs.size = 260
 all : ∀ i, i < 256 → ∃ x : Nat, cs[3 + i]? = some (.int .u32 (x : Int)) ∧ x < 4294967296 ∧ (i % (2 * b) = 0 → x = Crc.steps 8 i) ∧ (i % b = 0 → i < lim → x = Crc.steps 8 i)
 rest : ∀ i, i < 3 ∨ 259 ≤ i → cs[i]? = cs0[i]?
theorem Mid.start {cs cs0 : Array Value} {b : Nat} (h : Filled cs cs0 (2 * b)) : Mid cs cs0 b 0 :=
 ⟨h.size, fun i hi => by obtain ⟨x, h1, h2, h3⟩ := h.all i hi; exact ⟨x, h1, h2, h3, fun _ h => absurd h (by omega)⟩, h.rest⟩
theorem Mid.finish {cs cs0 : Array Value} {b lim : Nat} (h : Mid cs cs0 b lim) (hl : 256 ≤ lim) : Filled cs cs0 b :=
 ⟨h.size, fun i hi => by obtain ⟨x, h1, h2, _, h3⟩ := h.all i hi; exact ⟨x, h1, h2, fun hm => h3 hm (by omega)⟩, h.rest⟩
theorem Mid.next {cs cs0 : Array Value} {b a : Nat} (h : Mid cs cs0 b a) (hb : 0 < b) (ha : a % (2 * b) = 0) (hab : a + 2 * b ≤ 256) (hlt : Crc.steps 8 (a + b) < 4294967296) :
 Mid (cs.setIfInBounds (3 + (a + b)) (.int .u32 (Crc.steps 8 (a + b) : Nat))) cs0 b (a + 2 * b) := by
 refine ⟨by simp [h.size], fun i hi => ?_, fun i hi => ?_⟩
 · by_cases e : i = a + b
   · subst e
     refine ⟨Crc.steps 8 (a + b), by rw [Array.getElem?_setIfInBounds_self]; simp [h.size]; omega, hlt, fun _ => rfl, fun _ _ => rfl⟩
   · obtain ⟨x, h1, h2, h3, h4⟩ := h.all i hi
     refine ⟨x, by rw [Array.getElem?_setIfInBounds_ne (by omega)]; exact h1, h2, h3, fun hm hl => ?_⟩
     by_cases hia : i < a
     · exact h4 hm hia
     · apply h3
       obtain ⟨d, hd⟩ : ∃ d, i = a + d := ⟨i - a, by omega⟩
       subst hd
       obtain ⟨q, hq⟩ : ∃ q, a = 2 * b * q := ⟨a / (2 * b), by have := Nat.div_add_mod a (2 * b); omega⟩
       have hda : (a + d) % b = d % b := by
        rw [hq, show 2 * b * q = b * (2 * q) from by ac_rfl, Nat.mul_add_mod]
       rw [hda] at hm
       have hd2 : d < 2 * b := by omega
       have hdb : d ≠ b := by omega
       have hd0 : d = 0 := by
        obtain ⟨r, hr⟩ : ∃ r, d = b * r := ⟨d / b, by have := Nat.div_add_mod d b; omega⟩
        match r, hr with
        | 0, hr => simpa using hr
        | 1, hr => omega
        | r + 2, hr => rw [Nat.mul_add] at hr; omega
       subst hd0
       exact ha
 · rw [Array.getElem?_setIfInBounds_ne (by omega)]; exact h.rest i hi
set_option maxRecDepth 100000 in
set_option maxHeartbeats 1600000 in
theorem fill_any (p : Nat) (cs0 : Array Value) (w : World) (h : w.heap[p]? = some (.cells cs0 116 (0, 0))) (hs : cs0.size = 260) (hz : ∀ i, i < 256 → cs0[3 + i]? = some (.int .u32 0)) :
 Calls Tryz.prog 137 #[.pointer (some ⟨p, 0, none⟩)] w (fun e w' => e = .returned (.tuple #[]) ∧ But p w w' ∧ ∃ cs, w'.heap[p]? = some (.cells cs 116 (0, 0)) ∧ Filled cs cs0 1) := by
 have hf0 : Filled cs0 cs0 (2 ^ 8) := ⟨hs, fun i hi => ⟨0, hz i hi, by decide, fun hm => by
  have : i = 0 := by omega
  subst this; decide⟩, fun _ _ => rfl⟩
 clear hs hz
 go_enter Tryz.func137, Tryz.ntmps137
 go_wp2
 go_loopw [2, 3, 4] (fun d b _ wr => ∃ k : Nat, k ≤ 8 ∧ d = .int .u32 (Crc.steps k 1 : Nat) ∧ b = .int .i64 ((2 ^ (8 - k) / 2 : Nat) : Int) ∧ But p w wr ∧ ∃ cs, wr.heap[p]? = some (.cells cs 116 (0, 0)) ∧ Filled cs cs0 (2 ^ (8 - k))) (fun _ b _ _ => (intOf b).toNat)
 case atStart => exact ⟨0, by omega, rfl, rfl, But.refl _ _, cs0, h, hf0⟩
 case round =>
  clear h hf0
  obtain ⟨k, hk, rfl, rfl, hbut, cs, hh, hfl⟩ := hrel
  by_cases h8 : k < 8
  · obtain ⟨b, hb⟩ : ∃ b, b = 2 ^ (7 - k) := ⟨_, rfl⟩
    have e2 : 2 ^ (8 - k) = 2 * b := by rw [hb, show 8 - k = (7 - k) + 1 from by omega, Nat.pow_succ]; omega
    have hbp : 0 < b := by rw [hb]; exact Nat.two_pow_pos _
    have hb128 : b ≤ 128 := by rw [hb]; exact Nat.pow_le_pow_right (n := 2) (by omega) (show 7 - k ≤ 7 by omega)
    have hdiv : (256 : Nat) % (2 * b) = 0 := by
     rw [← e2, show (256 : Nat) = 2 ^ k * 2 ^ (8 - k) from by rw [← Nat.pow_add, show k + (8 - k) = 8 from by omega]]; exact Nat.mul_mod_left _ _
    have e3 : 2 ^ (8 - k) / 2 = b := by omega
    have enext : b / 2 = 2 ^ (8 - (k + 1)) / 2 := by rw [hb, show 8 - (k + 1) = 7 - k from by omega]
    have hmid := Mid.start (e2 ▸ hfl)
    have hdoes : Crc.steps (k + 1) 1 < 4294967296 := Crc.steps_lt _ _ (by decide)
    have hdk : Crc.steps k 1 < 4294967296 := Crc.steps_lt _ _ (by decide)
    have esucc : Crc.step (Crc.steps k 1) = Crc.steps (k + 1) 1 := (Crc.steps_succ k 1).symm
    have htab : ∀ a, a % (2 * b) = 0 → Crc.steps 8 (a + b) = Crc.steps 8 a ^^^ Crc.steps (k + 1) 1 := by
     intro a ha
     obtain ⟨q, hq⟩ : ∃ q, a = q * (2 * b) := ⟨a / (2 * b), by have := Nat.div_add_mod a (2 * b); rw [Nat.mul_comm]; omega⟩
     rw [hq, hb, ← hb, ← e2, hb]
     exact Crc.table_next q k h8
    rw [e3]
    have HB := Lib.hid hb
    have HE := Lib.hid enext
    have HS := Lib.hid esucc
    have HM := Lib.hid hmid
    have HH := Lib.hid hh
    have HD := Lib.hid hdiv
    have HE2 := Lib.hid e2
    have HT := Lib.hid htab
    clear hb e2 e3 enext esucc hmid hh hdiv htab hfl
    go_wp2_with (go_at_call 144; refine (shift_any _ _ hdk).mono ?_; rintro e w' ⟨rfl, rfl⟩)
    rw [HS.out]
    obtain ⟨wo, hwo⟩ : ∃ wo : World, wo = wr := ⟨_, rfl⟩
    subst hwo
    go_loopw [4] (fun x wi => ∃ a : Nat, x = .int .i64 a ∧ a ≤ 256 ∧ Hid (a % (2 * b) = 0) ∧ But p w wi ∧ ∃ ds, Hid (wi.heap[p]? = some (.cells ds 116 (0, 0))) ∧ Mid ds cs0 b a) (fun x _ => 256 - (intOf x).toNat)
    case atStart => exact ⟨0, rfl, by omega, Nat.zero_mod _, hbut, cs, HH, HM.out⟩
    case round =>
     obtain ⟨a, rfl, ha, ham, hbi, ds, hdh, hmi⟩ := hrel
     clear HH HM hbut
     by_cases hlt : a < 256
     · have hab : a + 2 * b ≤ 256 := by
        have h1 := ham.out
        have h2 := HD.out
        obtain ⟨q, hq⟩ : ∃ q, a = 2 * b * q := ⟨a / (2 * b), by have := Nat.div_add_mod a (2 * b); omega⟩
        obtain ⟨r, hr⟩ : ∃ r, 256 = 2 * b * r := ⟨256 / (2 * b), by have := Nat.div_add_mod 256 (2 * b); omega⟩
        have hqr : q < r := by
         rcases Nat.lt_or_ge q r with h | h
         · exact h
         · exfalso; have := Nat.mul_le_mul_left (2 * b) h; omega
        have := Nat.mul_le_mul_left (2 * b) (Nat.succ_le_of_lt hqr)
        rw [Nat.mul_succ] at this
        omega
       obtain ⟨x, hx1, hx2, hx3, _⟩ := hmi.all a hlt
       obtain ⟨y, hy1, hy2, _, _⟩ := hmi.all (a + b) (by omega)
       have hxa : Hid (x = Crc.steps 8 a) := hx3 ham.out
       have c1 : wr.drew.cell? ⟨p, 3 + a, none⟩ = some (.int .u32 (x : Int)) := by rw [World.cell?_drew, cell_of_heap hdh.out]; exact hx1
       have c2 : wr.drew.cell? ⟨p, 3 + (a + b), none⟩ = some (.int .u32 (y : Int)) := by rw [World.cell?_drew, cell_of_heap hdh.out]; exact hy1
       have z2 : wr.drew.frozen? ⟨p, 3 + (a + b), none⟩ = false := by rw [World.frozen?_drew, frozen_of_heap hdh.out]
       have hxor : bits .xor .u32 (x : Int) ((Crc.steps (k + 1) 1 : Nat) : Int) = ((x ^^^ Crc.steps (k + 1) 1 : Nat) : Int) := u32_xor_nat _ _ hx2 hdoes
       clear hx1 hy1 hx3
       go_wp2
       go_region
       all_goals go_wp2
       go_roundw
       case rel =>
        refine ⟨a + 2 * b, by go_num, hab, ?_, But.drew p (hbi.setCell _ _ _), ds.setIfInBounds (3 + (a + b)) (.int .u32 ((x ^^^ Crc.steps (k + 1) 1 : Nat) : Int)), ?_, ?_⟩
        · exact (Nat.add_mod_right _ _).trans ham.out
        · exact heap_setCell hdh.out (3 + (a + b)) _
        · rw [hxa.out, ← HT.out a ham.out]
          exact hmi.next hbp ham.out hab (by rw [HT.out a ham.out]; exact Crc.xor_lt _ _ (Crc.steps_lt _ _ (by omega)) hdoes)
       case measure => simp [intOf]; omega
     · have hfin := hmi.finish (by omega)
       go_wp2
       go_roundw
       case rel =>
        refine ⟨k + 1, by omega, rfl, by rw [← HE.out]; go_num, hbi, ds, hdh.out, ?_⟩
        rw [show 8 - (k + 1) = 7 - k from by omega, ← HB.out]; exact hfin
       case measure => simp [intOf]; omega
  · obtain rfl : k = 8 := by omega
    go_wp2
    go_end0
    exact ⟨rfl, hbut, cs, hh, hfl⟩
theorem disable (w : World) : (callFunc 153 #[]).run Tryz.prog w = .ok (.value (.tuple #[])) w := run_call_mark0 Tryz.func153 (by kernel_rfl) (by kernel_rfl) (by kernel_rfl) .disable (by kernel_rfl) w
theorem enable (w : World) : (callFunc 155 #[]).run Tryz.prog w = .ok (.value (.tuple #[])) w := run_call_mark0 Tryz.func155 (by kernel_rfl) (by kernel_rfl) (by kernel_rfl) .enable (by kernel_rfl) w
theorem acquire (a : Addr) (w : World) : (callFunc 156 #[.pointer (some a)]).run Tryz.prog w = .ok (.value (.tuple #[])) w := run_call_marked Tryz.func156 (by kernel_rfl) (by kernel_rfl) (by kernel_rfl) .acquire (by kernel_rfl) a w
theorem releaseMerge (a : Addr) (w : World) : (callFunc 158 #[.pointer (some a)]).run Tryz.prog w = .ok (.value (.tuple #[])) w := run_call_marked Tryz.func158 (by kernel_rfl) (by kernel_rfl) (by kernel_rfl) .releaseMerge (by kernel_rfl) a w
theorem store_deferred (a : Addr) (x : Value) (u : FrameMode) (w : World) (hc : w.cell? a = some x) (hz : w.frozen? a = false) :
 CallsD Tryz.prog 148 #[.pointer (some a), .bool true] u w fun e u' w' => u' = u ∧ (e = .returned (.tuple #[]) ∧ w' = w.drew.setCell a (.int .u32 1)) := by
 have hc' : w.drew.cell? a = some x := by go_simp
 have hz' : w.drew.frozen? a = false := by go_simp
 have hst := run_call_store (P := Tryz.prog) Tryz.func151 (by kernel_rfl) (by kernel_rfl) (by kernel_rfl) (by kernel_rfl) (k := .u32) (y := 1) hc' hz'
 go_enter_d Tryz.func148, Tryz.ntmps148
 go_wp2
 go_region_calls
 all_goals (go_end0; exact ⟨rfl, rfl⟩)
theorem unlock_deferred (a : Addr) (u : FrameMode) (w : World) (hc : w.cell? a = some (.int .i32 1)) (hz : w.frozen? a = false) :
 CallsD Tryz.prog 147 #[.pointer (some a)] u w fun e u' w' => u' = u ∧ (e = .returned (.tuple #[]) ∧ w' = w.setCell a (.int .i32 0)) := by
 have hd := disable
 have he := enable
 have hr := releaseMerge
 have hadd := run_call_add (P := Tryz.prog) Tryz.func159 (by kernel_rfl) (by kernel_rfl) (by kernel_rfl) .i32 (by kernel_rfl) (y := -1) (s := 0) hc hz (by simp [go_sem]; rfl)
 have hcv := run_convert_to_unsafe (P := Tryz.prog) (src := 196) (dst := 200) Tryz.underlying196 Tryz.underlying200 (by kernel_rfl) hc
 go_enter_d Tryz.func147, Tryz.ntmps147
 go_wp2
 go_end0
 go_wp2
 go_end0
 exact ⟨rfl, rfl⟩
theorem lock_free (a : Addr) (w : World) (hc : w.cell? a = some (.int .i32 0)) (hz : w.frozen? a = false) :
 Calls Tryz.prog 146 #[.pointer (some a)] w fun e w' => e = .returned (.tuple #[]) ∧ w' = w.setCell a (.int .i32 1) := by
 have hd := disable
 have he := enable
 have ha := acquire
 have hcas := run_call_cas_hit (P := Tryz.prog) Tryz.func154 (by kernel_rfl) (by kernel_rfl) (by kernel_rfl) .i32 (by kernel_rfl) (y := 1) hc hz
 have hc' : (w.setCell a (.int .i32 1)).cell? a = some (.int .i32 1) := World.cell?_setCell_same w a _ hc
 have hcv := run_convert_to_unsafe (P := Tryz.prog) (src := 196) (dst := 200) Tryz.underlying196 Tryz.underlying200 (by kernel_rfl) hc'
 go_enter Tryz.func146, Tryz.ntmps146
 go_wp2
 first | go_end0 | (simp only [Exit.inBlock, Exit.then]; refine bodyPost_ret (results_none rfl _ _ _) rfl ?_) | refine bodyPost_ret (results_none rfl _ _ _) rfl ?_
 go_wp2
 go_end0
 exact ⟨rfl, rfl⟩
def tabCells (d : Nat) (f : Nat → Nat) (c : Int) : List Value :=
 [.int .u32 (d : Int), .int .i32 0, .int .u32 0] ++ (List.range 256).map (fun i => Value.int .u32 (f i : Int)) ++ [.int .i64 c]
theorem tabCells_length (d : Nat) (f : Nat → Nat) (c : Int) : (tabCells d f c).length = 260 := by simp [tabCells]
theorem tabCells_low (d : Nat) (f : Nat → Nat) (c : Int) (i : Nat) (h : i < 3) : (tabCells d f c)[i]? = [Value.int .u32 (d : Int), .int .i32 0, .int .u32 0][i]? := by
 unfold tabCells
 rw [List.append_assoc, List.getElem?_append_left (by simpa using h)]
theorem tabCells_step (d : Nat) (f : Nat → Nat) (c : Int) (i : Nat) (h : i < 256) : (tabCells d f c)[3 + i]? = some (.int .u32 (f i : Int)) := by
 unfold tabCells
 rw [List.append_assoc, List.getElem?_append_right (by simp), List.getElem?_append_left (by simp; omega)]
 simp [h]
theorem tabCells_count (d : Nat) (f : Nat → Nat) (c : Int) : (tabCells d f c)[259]? = some (.int .i64 c) := by
 unfold tabCells
 rw [List.getElem?_append_right (by simp)]
 simp
def Tab (w : World) (p d : Nat) (c : Int) : Prop := w.heap[p]? = some (.cells (tabCells d (fun i => if d = 1 then Crc.steps 8 i else 0) c).toArray 116 (0, 0))
theorem Tab.cell {w : World} {p d : Nat} {c : Int} (h : Tab w p d c) (i : Nat) : w.cell? ⟨p, i, none⟩ = (tabCells d (fun i => if d = 1 then Crc.steps 8 i else 0) c)[i]? := by
 rw [cell_of_heap h]; simp
theorem Tab.frozen {w : World} {p d : Nat} {c : Int} (h : Tab w p d c) (i : Nat) : w.frozen? ⟨p, i, none⟩ = false := frozen_of_heap h i
theorem Tab.done {w : World} {p d : Nat} {c : Int} (h : Tab w p d c) : w.cell? ⟨p, 0, none⟩ = some (.int .u32 (d : Int)) := by rw [h.cell, tabCells_low _ _ _ _ (by omega)]; rfl
theorem Tab.state {w : World} {p d : Nat} {c : Int} (h : Tab w p d c) : w.cell? ⟨p, 1, none⟩ = some (.int .i32 0) := by rw [h.cell, tabCells_low _ _ _ _ (by omega)]; rfl
theorem Tab.step {w : World} {p : Nat} {c : Int} (h : Tab w p 1 c) (i : Nat) (hi : i < 256) : w.cell? ⟨p, 3 + i, none⟩ = some (.int .u32 (Crc.steps 8 i : Nat)) := by rw [h.cell, tabCells_step _ _ _ _ hi]; simp
theorem Tab.count {w : World} {p d : Nat} {c : Int} (h : Tab w p d c) : w.cell? ⟨p, 259, none⟩ = some (.int .i64 c) := by rw [h.cell, tabCells_count]
set_option maxRecDepth 100000 in
set_option maxHeartbeats 1600000 in
theorem slow_any (p : Nat) (c : Int) (w : World) (h : Tab w p 0 c) :
 Calls Tryz.prog 143 #[.pointer (some ⟨p, 0, none⟩), .func (.func 137) #[.pointer (some ⟨p, 0, none⟩)] #[]] w fun e w' => e = .returned (.tuple #[]) ∧ But p w w' ∧ Tab w' p 1 c := by
 have h0 := h.done
 have h1 := h.state
 have f0 := h.frozen 0
 have f1 := h.frozen 1
 have hh1 := heap_setCell h 1 (.int .i32 1)
 have hl := run_call_load (P := Tryz.prog) Tryz.func145 (by kernel_rfl) (by kernel_rfl) (by kernel_rfl) .u32 (by kernel_rfl) (w := w.setCell ⟨p, 1, none⟩ (.int .i32 1)) (a := ⟨p, 0, none⟩) (x := 0) ((World.cell?_setCell_other _ ⟨p, 1, none⟩ ⟨p, 0, none⟩ _ (by simp)).trans h0)
 have hnot : ∀ (x : Bool) (w : World), (Op.unary .not (.bool x)).run Tryz.prog w = .ok (.bool (!x)) w := fun _ _ => rfl
 have hfill := fill_any p _ (w.setCell ⟨p, 1, none⟩ (.int .i32 1)) hh1 (by simp [tabCells_length]) (fun i hi => by
  rw [Array.getElem?_setIfInBounds_ne (by omega)]
  have := tabCells_step 0 (fun i => if (0 : Nat) = 1 then Crc.steps 8 i else 0) c i hi
  simpa using this)
 have HF := Lib.hid hfill
 have HH := Lib.hid hh1
 clear hfill hh1
 go_enter_defers Tryz.func143, Tryz.ntmps143
 go_wp2_with (first | (go_at_call 146; refine (lock_free ⟨p, 1, none⟩ _ (by go_simp) (by go_simp)).mono ?_; rintro e w' ⟨rfl, rfl⟩) | (go_at_call 142; go_in) | (go_at_call 137; refine HF.out.mono ?_; rintro e w' ⟨rfl, hb, cs, hcs, hfl⟩))
 refine leaves_cons (f := 148) (args := #[.pointer (some ⟨p, 0, none⟩), .bool true]) (by simp) (by simp [go_sem]) ?_
 have e0 : cs[0]? = some (.int .u32 0) := by rw [hfl.rest 0 (by omega)]; simp [tabCells]
 have e1 : cs[1]? = some (.int .i32 1) := by rw [hfl.rest 1 (by omega)]; simp [tabCells]
 have e2 : cs[2]? = some (.int .u32 0) := by rw [hfl.rest 2 (by omega)]; simp [tabCells]
 have e3 : cs[259]? = some (.int .i64 c) := by
  rw [hfl.rest 259 (by omega), Array.getElem?_setIfInBounds_ne (by omega)]
  have := tabCells_count 0 (fun i => if (0 : Nat) = 1 then Crc.steps 8 i else 0) c
  simpa using this
 refine (store_deferred ⟨p, 0, none⟩ (.int .u32 0) .returning _ (by rw [cell_of_heap hcs]; exact e0) (by rw [frozen_of_heap hcs])).mono ?_
 rintro e u' w'' ⟨rfl, rfl, rfl⟩
 have hc2 := heap_setCell (w := w'.drew) hcs 0 (.int .u32 1)
 refine leaves_cons (f := 147) (args := #[.pointer (some ⟨p, 1, none⟩)]) (by simp [settle]) (by simp [go_sem]) ?_
 refine (unlock_deferred ⟨p, 1, none⟩ _ _ (by rw [cell_of_heap hc2, Array.getElem?_setIfInBounds_ne (by omega)]; exact e1) (by rw [frozen_of_heap hc2])).mono ?_
 rintro e u' w'' ⟨rfl, rfl, rfl⟩
 have hc3 := heap_setCell hc2 1 (.int .i32 0)
 have hfin : Tab ((w'.drew.setCell ⟨p, 0, none⟩ (.int .u32 1)).setCell ⟨p, 1, none⟩ (.int .i32 0)) p 1 c := by
  unfold Tab
  rw [hc3]
  congr 2
  have hsz : cs.size = 260 := hfl.size
  suffices key : ∀ i, ((cs.setIfInBounds 0 (.int .u32 1)).setIfInBounds 1 (.int .i32 0))[i]? = (tabCells 1 (fun i => if 1 = 1 then Crc.steps 8 i else 0) c)[i]? by
   apply Array.ext_getElem?
   intro i
   refine (key i).trans ?_
   rw [List.getElem?_toArray]
  intro i
  by_cases hi0 : i = 0
  · subst hi0; rw [Array.getElem?_setIfInBounds_ne (by omega), Array.getElem?_setIfInBounds_self]; simp [hsz, tabCells]
  · by_cases hi1 : i = 1
    · subst hi1; rw [Array.getElem?_setIfInBounds_self]; simp [hsz, tabCells]
    · rw [Array.getElem?_setIfInBounds_ne (by omega), Array.getElem?_setIfInBounds_ne (by omega)]
      by_cases hi2 : i = 2
      · subst hi2; rw [e2]; simp [tabCells]
      · by_cases hi3 : i < 259
        · obtain ⟨j, rfl⟩ : ∃ j, i = 3 + j := ⟨i - 3, by omega⟩
          obtain ⟨x, hx, _, hx2⟩ := hfl.all j (by omega)
          rw [hx, tabCells_step _ _ _ _ (by omega), hx2 (Nat.mod_one j)]
          simp
        · by_cases hi4 : i = 259
          · subst hi4; rw [e3, tabCells_count]
          · rw [Array.getElem?_eq_none (by omega), List.getElem?_eq_none (by rw [tabCells_length]; omega)]
 have hbut : But p w ((w'.drew.setCell ⟨p, 0, none⟩ (.int .u32 1)).setCell ⟨p, 1, none⟩ (.int .i32 0)) :=
  ((But.drew p (((But.refl p w).setCell 1 none (.int .i32 1)).trans hb)).setCell 0 none (.int .u32 1)).setCell 1 none (.int .i32 0)
 simp [Leaves, settle, results, Tryz.results143]
 exact ⟨hbut, hfin⟩
set_option maxRecDepth 100000 in
set_option maxHeartbeats 1600000 in
theorem do_first (p : Nat) (c : Int) (w : World) (h : Tab w p 0 c) :
 Calls Tryz.prog 136 #[.pointer (some ⟨p, 0, none⟩), .func (.func 137) #[.pointer (some ⟨p, 0, none⟩)] #[]] w fun e w' => e = .returned (.tuple #[]) ∧ But p w w' ∧ Tab w' p 1 c := by
 have hl := run_call_load (P := Tryz.prog) Tryz.func145 (by kernel_rfl) (by kernel_rfl) (by kernel_rfl) .u32 (by kernel_rfl) h.done
 have hnot : ∀ (x : Bool) (w : World), (Op.unary .not (.bool x)).run Tryz.prog w = .ok (.bool (!x)) w := fun _ _ => rfl
 go_enter Tryz.func136, Tryz.ntmps136
 go_wp2_with (first | (go_at_call 143; refine (slow_any p c _ h).mono ?_; rintro e w' ⟨rfl, hb, ht⟩) | (go_at_call 142; go_in))
 go_end0
 exact ⟨rfl, hb, ht⟩
set_option maxHeartbeats 1600000 in
theorem do_done (p : Nat) (c : Int) (fv : Value) (w : World) (h : Tab w p 1 c) :
 Calls Tryz.prog 136 #[.pointer (some ⟨p, 0, none⟩), fv] w fun e w' => e = .returned (.tuple #[]) ∧ w = w' := by
 have hl := run_call_load (P := Tryz.prog) Tryz.func145 (by kernel_rfl) (by kernel_rfl) (by kernel_rfl) .u32 (by kernel_rfl) h.done
 have hnot : ∀ (x : Bool) (w : World), (Op.unary .not (.bool x)).run Tryz.prog w = .ok (.bool (!x)) w := fun _ _ => rfl
 clear h
 go_enter Tryz.func136, Tryz.ntmps136
 go_wp2
 go_end0
 exact ⟨rfl, rfl⟩
theorem ret_u32'' {a b : Int} (h : a = b) : Ending.returned (.int .u32 a) = .returned (.int .u32 b) := by rw [h]
theorem tabCells_int (d : Nat) (f : Nat → Nat) (c : Int) : ∀ x ∈ tabCells d f c, ∃ k n, x = .int k n ∧ k ≠ .u8 := by
 intro x hx
 unfold tabCells at hx
 simp only [List.mem_append, List.mem_map, List.mem_cons, List.not_mem_nil, or_false] at hx
 rcases hx with ((rfl | rfl | rfl) | ⟨i, _, rfl⟩) | rfl <;> exact ⟨_, _, rfl, by simp⟩
theorem Sl.but {w w' : World} {p d : Nat} {c : Int} {v : Value} {xs : List Value} (h : Sl w v xs) (hx : ∀ x ∈ xs, ∀ k n, x = .int k n → k = .u8) (ht : Tab w p d c) (hb : But p w w') : Sl w' v xs := by
 obtain ⟨a, cap, rfl, h1, h2, h4, h3⟩ := h
 refine ⟨a, cap, rfl, h1, h2, h4, fun i hi => ?_⟩
 obtain ⟨b, off, e, hc⟩ := h3 i hi
 refine ⟨b, off, e, ?_⟩
 have hne : b ≠ p := by
  rintro rfl
  rw [ht.cell] at hc
  obtain ⟨k, n, e, hk⟩ := tabCells_int _ _ _ _ (List.mem_of_getElem? hc)
  exact hk (hx _ (List.getElem_mem hi) k n e)
 have hlt := World.block_lt_of_cell? w _ hc
 rw [World.cell?_of_block (w := w) (hb.block b hlt hne)]
 exact hc
theorem Bytes.but {w w' : World} {p d : Nat} {c : Int} {v : Value} {l : List UInt8} (h : Bytes w v l) (ht : Tab w p d c) (hb : But p w w') : Bytes w' v l :=
 Sl.but h (fun x hx k n e => by
  obtain ⟨y, _, rfl⟩ := List.mem_map.1 hx
  injection e with e1 _
  exact e1.symm) ht hb
theorem Rows.but {w w' : World} {p d : Nat} {c : Int} {v : Value} {ls : List (List UInt8)} (h : Rows w v ls) (ht : Tab w p d c) (hb : But p w w') : Rows w' v ls := by
 obtain ⟨xs, h1, h2, h3⟩ := h
 refine ⟨xs, h1.but (fun x hx k n e => ?_) ht hb, h2, fun i h h' => (h3 i h h').but ht hb⟩
 obtain ⟨i, hi, rfl⟩ := List.getElem_of_mem hx
 obtain ⟨a, m, c, e'⟩ := (h3 i hi (by omega)).isSlice
 rw [e'] at e
 cases e
theorem build_table (w : World) : (zeroValue 116).run Tryz.prog w = .ok (.agg (tabCells 0 (fun i => if 0 = 1 then Crc.steps 8 i else 0) 0).toArray) w := by kernel_rfl
theorem box_table (w : World) : (Instr.box 116 (.agg (tabCells 0 (fun i => if 0 = 1 then Crc.steps 8 i else 0) 0).toArray)).run Tryz.prog w = .ok (.pointer (some ⟨w.heap.size, 0, none⟩)) (w.alloc (.cells (tabCells 0 (fun i => if 0 = 1 then Crc.steps 8 i else 0) 0).toArray 116)) := by kernel_rfl
def GivesTable (w : World) (e : Ending) (w' : World) : Prop := e = .returned (.pointer (some ⟨w.heap.size, 0, none⟩)) ∧ Tab w' w.heap.size 0 0 ∧ Ext w w'
set_option maxHeartbeats 400000 in
theorem new_any (w : World) : Calls Tryz.prog 22 #[] w (GivesTable w) := by
 have h1 := build_table
 have h2 := box_table
 generalize hT : (tabCells 0 (fun i => if 0 = 1 then Crc.steps 8 i else 0) 0).toArray = T at *
 have HT := Lib.hid hT
 clear hT
 go_enter Tryz.func22, Tryz.ntmps22
 go_wp2
 go_ret
 refine ⟨rfl, ?_, Ext.alloc _ _⟩
 unfold Tab
 rw [HT.out]
 exact heap_alloc_new w _
set_option maxRecDepth 100000 in
set_option maxHeartbeats 1000000 in
theorem add_any (p d : Nat) (c : Int) (s : Nat) (v : Value) (l : List UInt8) (w : World) (ht : Tab w p d c) (hd : d = 0 ∨ d = 1) (hs : s < 4294967296) (hv : Bytes w v l) :
 Calls Tryz.prog 116 #[.pointer (some ⟨p, 0, none⟩), .int .u32 (s : Int), v] w fun e w' => e = .returned (.int .u32 (Crc.more s l : Nat)) ∧ But p w w' ∧ Tab w' p 1 c := by
 have hmf : ∀ (fn : Fn) (first cap : Array Value) (w : World), (Instr.makeFunc fn first cap).run Tryz.prog w = .ok (.func fn first cap) w := fun _ _ _ _ => rfl
 have hdo : Calls Tryz.prog 136 #[.pointer (some ⟨p, 0, none⟩), .func (.func 137) #[.pointer (some ⟨p, 0, none⟩)] #[]] w fun e w' => e = .returned (.tuple #[]) ∧ But p w w' ∧ Tab w' p 1 c := by
  rcases hd with rfl | rfl
  · exact do_first p c w ht
  · exact (do_done p c _ w ht).mono fun e w' ⟨he, hw⟩ => by subst hw; exact ⟨he, But.refl _ _, ht⟩
 have HD := Lib.hid hdo
 clear hdo hd
 have h0 : 4294967295 - s < 4294967296 := by omega
 have hnot : ∀ n : Nat, n < 4294967296 → bits .xor .u32 IntKind.u32.max (n : Int) = ((4294967295 - n : Nat) : Int) := fun n hn => by
  rw [← Crc.all_xor n hn]; exact u32_xor_nat 4294967295 n (by decide) hn
 have HV := Lib.hid hv
 have HT := Lib.hid ht
 obtain ⟨a, cap, rfl, hcap, hmax, _, hc⟩ := hv.open
 unfold maxLen at hmax
 have HC := Lib.hid hc
 clear hc hv ht
 have hn1 := hnot s hs
 have HN := Lib.hid hnot
 clear hnot
 go_enter Tryz.func116, Tryz.ntmps116
 go_wp2_with (go_at_call 136; refine HD.out.mono ?_; rintro e w1 ⟨rfl, hb1, ht1⟩)
 go_loop [1, 8, 19] (fun x _ i => ∃ k m : Nat, k ≤ l.length ∧ m < 4294967296 ∧ i = .int .i64 k ∧ x = .int .u32 m ∧ Hid (m = Crc.run (4294967295 - s) (l.take k))) (fun _ _ i => l.length - (intOf i).toNat)
 case atStart => exact ⟨0, 4294967295 - s, by omega, h0, rfl, rfl, rfl⟩
 case round =>
  obtain ⟨k, m, hk, hm, rfl, rfl, hr⟩ := hrel
  clear hn1
  by_cases hlt : k < l.length
  · have hv1 := HV.out.but HT.out hb1
    obtain ⟨a', cap', e', _, _, _, hc1⟩ := hv1.open
    obtain ⟨b, off, rfl, hcell⟩ := hc1 k hlt
    injection e' with e1 e2 e3
    subst e1
    have hcl := (l[k]).toNat_lt
    have hx : (m % 256) ^^^ (l[k]).toNat < 256 := Nat.xor_lt_two_pow (n := 8) (Nat.mod_lt _ (by decide)) hcl
    have hmm : ((m : Int) % 256) = ((m % 256 : Nat) : Int) := by omega
    have hb8 : bits .xor .u8 ((m : Int) % 256) ((l[k]).toNat : Int) = (((m % 256) ^^^ (l[k]).toNat : Nat) : Int) := by rw [hmm]; exact u8_xor_nat _ _ (Nat.mod_lt _ (by decide)) hcl
    have hstep := ht1.step _ hx
    have hdv : ((m : Int) / 256) = ((m / 256 : Nat) : Int) := by omega
    have hb32 : bits .xor .u32 ((m : Int) / 256) ((Crc.steps 8 ((m % 256) ^^^ (l[k]).toNat) : Nat) : Int) = (((m / 256) ^^^ Crc.steps 8 ((m % 256) ^^^ (l[k]).toNat) : Nat) : Int) := by
     rw [hdv]; exact u32_xor_nat _ _ (by omega) (Crc.steps_lt _ _ (by omega))
    have hbt := Crc.byte_table m l[k]
    rw [← hbt] at hb32
    have hlt' := Crc.byte_lt m l[k] hm
    clear hmm hdv hbt ht1
    go_wp2
    go_round
    case rel => exact ⟨k + 1, Crc.byte m l[k], by omega, hlt', by go_num, rfl, by unfold Hid; rw [take_succ_getD l k hlt, Crc.run_append, ← hr.out]; rfl⟩
    case measure => simp [intOf]; omega
  · have hn2 := HN.out m hm
    have hs : Hid (m = Crc.run (4294967295 - s) l) := by
     have := hr.out; rw [List.take_of_length_le (by omega)] at this; exact this
    clear hr
    go_wp2
    go_ret
    exact ⟨ret_u32'' (by unfold Crc.more; rw [← hs.out]), hb1, ht1⟩
def bump (c : Int) : Int := IntKind.i64.wrap (c + 1)
theorem Tab.counted {w : World} {p d : Nat} {c : Int} (h : Tab w p d c) : Tab (w.setCell ⟨p, 259, none⟩ (.int .i64 (bump c))) p d (bump c) := by
 have h1 := heap_setCell h 259 (.int .i64 (bump c))
 have e : ∀ f : Nat → Nat, (tabCells d f c).toArray.setIfInBounds 259 (.int .i64 (bump c)) = (tabCells d f (bump c)).toArray := by
  intro f
  unfold tabCells
  rw [List.setIfInBounds_toArray, List.set_append_right _ _ (by simp)]
  simp
 rw [e] at h1
 exact h1
set_option maxHeartbeats 400000 in
theorem count_add (p d : Nat) (c : Int) (w : World) (h : Tab w p d c) :
 Calls Tryz.prog 115 #[.pointer (some ⟨p, 259, none⟩), .int .i64 1] w fun e w' => e = .returned (.int .i64 (bump c)) ∧ But p w w' ∧ Tab w' p d (bump c) := by
 have hadd := run_call_add (P := Tryz.prog) Tryz.func135 (by kernel_rfl) (by kernel_rfl) (by kernel_rfl) .i64 (by kernel_rfl) (y := 1) (s := (bump c)) h.count (h.frozen 259) (by simp [go_sem, bump])
 have ht := Lib.hid h.counted
 clear h
 go_enter Tryz.func115, Tryz.ntmps115
 go_wp2
 go_ret
 exact ⟨rfl, (But.refl p w).setCell 259 none _, ht.out⟩
set_option maxRecDepth 100000 in
set_option maxHeartbeats 1000000 in
theorem sum_any (p d : Nat) (c : Int) (v : Value) (ls : List (List UInt8)) (w : World) (ht : Tab w p d c) (hd : d = 0 ∨ d = 1) (hv : Rows w v ls) :
 Calls Tryz.prog 61 #[.pointer (some ⟨p, 0, none⟩), v] w fun e w' => e = .returned (.int .u32 (Crc.sum ls.flatten : Nat)) ∧ But p w w' ∧ ∃ d', (d' = 0 ∨ d' = 1) ∧ Tab w' p d' (bump c) := by
 have HV := Lib.hid hv
 obtain ⟨a, cap, rfl, hcap, hmax, hrow⟩ := hv.open
 unfold maxLen at hmax
 clear hrow hv
 go_enter Tryz.func61, Tryz.ntmps61
 go_wp2_with (first | (go_at_call 115; refine (count_add p d c _ ht).mono ?_; rintro e w1 ⟨rfl, hb1, ht1⟩))
 have HV1 := Lib.hid (HV.out.but ht hb1)
 go_loopw [5, 7, 14] (fun x _ i wr => ∃ k m d' : Nat, k ≤ ls.length ∧ m < 4294967296 ∧ i = .int .i64 k ∧ x = .int .u32 m ∧ Hid (m = Crc.sum (ls.take k).flatten) ∧ But p w1 wr ∧ Hid (d' = 0 ∨ d' = 1) ∧ Tab wr p d' (bump c)) (fun _ _ i _ => ls.length - (intOf i).toNat)
 case atStart => exact ⟨0, 0, d, by omega, by omega, rfl, rfl, by unfold Hid; rw [List.take_zero, List.flatten_nil, Crc.sum_nil], But.refl _ _, hd, ht1⟩
 case round =>
  obtain ⟨k, m, d', hk, hm, rfl, rfl, hr, hbr, hd', htr⟩ := hrel
  by_cases hlt : k < ls.length
  · have hvr := HV1.out.but ht1 hbr
    obtain ⟨a', cap', e', _, _, hrows⟩ := hvr.open
    obtain ⟨b, off, x, rfl, hcell, hx⟩ := hrows k hlt
    injection e' with e1 e2 e3
    subst e1
    have hn := Crc.more_lt m ls[k]
    clear hrows hvr e2 e3
    go_wp2_with (go_at_call 116; refine (add_any p d' (bump c) m x ls[k] _ htr hd'.out hm hx).mono ?_; rintro e w2 ⟨rfl, hb2, ht2⟩)
    go_roundw
    case rel => exact ⟨k + 1, Crc.more m ls[k], 1, by omega, hn, by go_num, rfl, by unfold Hid; rw [take_succ_getD ls k hlt, List.flatten_append, hr.out]; simp [Crc.sum, Crc.more_more], hbr.trans hb2, Or.inr rfl, ht2⟩
    case measure => simp [intOf]; omega
  · have hs : Hid (m = Crc.sum ls.flatten) := by
     have := hr.out; rw [List.take_of_length_le (by omega)] at this; exact this
    clear hr
    go_wp2
    go_ret
    exact ⟨ret_u32'' (by rw [hs.out]), hb1.trans hbr, d', hd'.out, htr⟩
def Low4 (n : Nat) (w : World) (e : Ending) (w' : World) : Prop :=
 ∃ b0 b1 b2 b3 : UInt8, e = .returned (.agg #[.int .u8 (b0.toNat : Int), .int .u8 (b1.toNat : Int), .int .u8 (b2.toNat : Int), .int .u8 (b3.toNat : Int)]) ∧ Hid (Crc.low n = [b0, b1, b2, b3]) ∧ Ext w w'
set_option maxHeartbeats 400000 in
theorem low_any (n : Nat) (w : World) (h : n < 4294967296) :
 Calls Tryz.prog 60 #[.int .u32 (n : Int)] w (Low4 n w) := by
 go_enter Tryz.func60, Tryz.ntmps60
 go_wp2
 have e1 : ((UInt8.ofNat n).toNat : Int) = (n : Int) % 256 := u8_ofNat n
 have e2 : ((UInt8.ofNat (n / 256)).toNat : Int) = (n : Int) / 256 % 256 := by rw [u8_ofNat]; omega
 have e3 : ((UInt8.ofNat (n / 65536)).toNat : Int) = (n : Int) / 65536 % 256 := by rw [u8_ofNat]; omega
 have e4 : ((UInt8.ofNat (n / 16777216)).toNat : Int) = (n : Int) / 16777216 := by rw [u8_ofNat]; omega
 refine bodyPost_ret (v := .agg #[.int .u8 ((n : Int) % 256), .int .u8 ((n : Int) / 256 % 256), .int .u8 ((n : Int) / 65536 % 256), .int .u8 ((n : Int) / 16777216)]) (by simp [results, Tryz.results60, go_sem]) rfl ⟨_, _, _, _, ?_, rfl, Ext.alloc _ _⟩
 rw [e1, e2, e3, e4]
set_option linter.unusedSimpArgs false
set_option linter.unusedVariables false
theorem tU8c : ElemOf Tryz.prog 38 5 (.int .u8 0) 1 := ⟨Tryz.underlying38, by kernel_rfl, rfl⟩
theorem Rows.made {w : World} {v : Value} {l : List UInt8} (e : TypeId) (h : Bytes w v l) : Rows (w.alloc (.cells #[v] e)) (.slice (some ⟨w.heap.size, 0, none⟩) 1 1) [l] :=
 ⟨[v], Sl.made w [v] e 1 rfl (by simp [maxLen]), rfl, fun i h1 h2 => by
  have : i = 0 := by simpa using h1
  subst this
  exact h.below (Ext.alloc w _)⟩
def TabOwns (p : Nat) (c : Int) (w : World) (l : List UInt8) (e : Ending) (w' : World) : Prop := ∃ v d, e = .returned v ∧ w'.ownsRow w.heap.size 5 1 v l.length (u8s l) ∧ But p w w' ∧ (d = 0 ∨ d = 1) ∧ Tab w' p d c
set_option maxRecDepth 100000 in
set_option maxHeartbeats 1000000 in
theorem put_own (p d : Nat) (c : Int) (v : Value) (l : List UInt8) (w : World) (ht : Tab w p d c) (hd : d = 0 ∨ d = 1) (hv : Bytes w v l) (hl : l.length ≤ 100000) :
 Calls Tryz.prog 23 #[.pointer (some ⟨p, 0, none⟩), v] w (TabOwns p (bump c) w (l ++ Crc.low (Crc.sum l))) := by
 have HV := Lib.hid hv
 have HT := Lib.hid ht
 have hpw : p < w.heap.size := by
  have := ht.done
  exact World.block_lt_of_cell? w _ this
 obtain ⟨a, cap, rfl, hcap, hmax, _, hcl⟩ := hv.open
 unfold maxLen at hmax
 have hrow := Rows.made 38 hv
 have hs := Crc.more_lt 0 l
 have hta : Tab (w.alloc (.cells #[.slice a l.length cap] 38)) p d c := by
  unfold Tab at ht ⊢
  rw [Below.heap_alloc _ _ _ hpw]; exact ht
 have HR := Lib.hid hrow
 clear hcl hv hrow ht
 go_enter Tryz.func23, Tryz.ntmps23
 go_wp2_with (first | (go_at_call 61; refine (sum_any p d c _ [l] _ hta hd HR.out).mono ?_; rintro e w1 ⟨rfl, hb1, d1, hd1, ht1⟩; rw [List.flatten_singleton]) | (go_at_call 60; refine (low_any (Crc.sum l) _ hs).mono ?_; rintro e w2 ⟨b0, b1, b2, b3, rfl, hlow, hb2⟩) | (at_make; refine wpList_mk rfl _ _ tU8c rfl w.heap.size (l.length + 4) rfl rfl ?k1 ?k2 ?k3 ?k4 ?_; rotate_right; intro w3 hown3 hg3))
 case k1 => omega
 case k2 => omega
 case k3 => simp [maxLen]; omega
 case k4 => have h1 := hb1.size; have h2 := hb2.size; simp only [World.size_alloc] at h1 ⊢; omega
 have hsz1 := hb1.size
 have hsz2 := hb2.size
 simp only [World.size_alloc] at hsz1
 obtain ⟨cells4, hcells4⟩ : ∃ x, x = [Value.int .u8 (b0.toNat : Int), .int .u8 (b1.toNat : Int), .int .u8 (b2.toNat : Int), .int .u8 (b3.toNat : Int)] := ⟨_, rfl⟩
 have hb3 : Ext w2 w3 := by
  have := Ext.alloc w2 (.cells #[.int .u8 (b0.toNat : Int), .int .u8 (b1.toNat : Int), .int .u8 (b2.toNat : Int), .int .u8 (b3.toNat : Int)] 117)
  exact this.trans ⟨hg3.os, hg3.tape, hg3.output, hg3.size, fun k hk => hg3.block k hk (by simp)⟩
 have hbw : But p w w3 := ((Ext.but (Ext.alloc w _) p).trans hb1).trans (Ext.but (hb2.trans hb3) p)
 have hsl1 : Sl w3.drew (.slice a l.length cap) (u8s l) := Sl.below (HV.out.but HT.out hbw) (Ext.drew w3)
 have hown3' : w3.drew.ownsRow w.heap.size 5 1 (.slice (some ⟨w2.heap.size + 1, 0, none⟩) 0 (l.length + 4)) 0 [] := by
  have := hown3.drew
  simpa using this
 have hsl2 : ∀ w4 : World, w3.drew.grownBy w4 (some (w2.heap.size + 1)) → Sl w4 (.slice (some ⟨w2.heap.size, 0, none⟩) 4 4) (u8s [b0, b1, b2, b3]) := by
  intro w4 hg
  have h1 := Sl.made w2 (u8s [b0, b1, b2, b3]) 117 4 (by simp) (by simp [maxLen]) (fr := (0, 0))
  have h2 : w4.heap[w2.heap.size]? = (w2.alloc (.cells (u8s [b0, b1, b2, b3]).toArray 117)).heap[w2.heap.size]? := by
   rw [hg.block _ (by show w2.heap.size < w3.heap.size; have := hg3.size; simp only [World.size_alloc] at this; omega) (by simp)]
   show w3.heap[w2.heap.size]? = _
   exact hg3.block _ (by simp) (by simp)
  obtain ⟨aa, cc, e, q1, q2, q3, q4⟩ := h1
  refine ⟨aa, cc, e, q1, q2, q3, fun i hi => ?_⟩
  obtain ⟨b, off, e2, hc2⟩ := q4 i hi
  refine ⟨b, off, e2, ?_⟩
  have hbb : b = w2.heap.size := by
   injection e with e3
   rw [← e3] at e2
   injection e2 with e2
   injection e2 with e4
   exact e4.symm
  subst hbb
  rw [World.cell?_of_block (w := w2.alloc (.cells (u8s [b0, b1, b2, b3]).toArray 117)) h2]
  exact hc2
 have hc1 : 0 + (u8s l).length ≤ maxLen := by simp [maxLen]; omega
 have hc2 : (0 + (u8s l).length) * 1 ≤ 140737488355328 := by simp; omega
 have hc3 : 0 + (u8s l).length + (u8s [b0, b1, b2, b3]).length ≤ maxLen := by simp [maxLen]; omega
 have hc4 : (0 + (u8s l).length + (u8s [b0, b1, b2, b3]).length) * 1 ≤ 140737488355328 := by simp; omega
 have hz3 : w.heap.size ≤ w3.drew.heap.size := hbw.size
 clear hown3 hcells4
 go_region_held3 (fun _ => True) (trivial) (first | (rw [if_pos (by rfl)]; refine wp_app (.tmp 16) (.tmp 17) tU8c rfl rfl rfl hown3' hsl1 (u8s_one l) hc1 hc2 hz3 ?_; intro v4 w4 hown4 hg4) | (rw [if_pos (by rfl)]; refine wp_app (.tmp 18) (.tmp 19) tU8c rfl rfl rfl hown4 (hsl2 _ hg4) (u8s_one _) hc3 hc4 (Nat.le_trans hz3 hg4.size) ?_; intro v5 w5 hown5 hg5))
 go_wp2
 go_ret
 refine ⟨v5, d1, rfl, ?_, ?_, hd1, ?_⟩
 · rw [hlow.out]
   simpa [u8s] using hown5
 · exact ((But.drew p hbw).grown hg4 (fun k hk => (hown3'.lt k hk).1)).grown hg5 (fun k hk => (hown4.lt k hk).1)
 · have hpw3 : p < w3.heap.size := Nat.lt_of_lt_of_le hpw hz3
   have e1 : w3.heap[p]? = w1.heap[p]? := (hb2.trans hb3).block p (Nat.lt_of_lt_of_le hpw (Nat.le_trans (Nat.le_succ _) hsz1))
   have e2 : w4.heap[p]? = w3.heap[p]? := hg4.block p hpw3 (fun e => by have := (hown3'.lt p e.symm).1; omega)
   have e3 : w5.heap[p]? = w4.heap[p]? := hg5.block p (Nat.lt_of_lt_of_le hpw3 hg4.size) (fun e => by have := (hown4.lt p e.symm).1; omega)
   unfold Tab
   rw [e3, e2, e1]
   exact ht1
def TabCuts (p : Nat) (c : Int) (w : World) (r : Option (List UInt8)) (e : Ending) (w' : World) : Prop :=
 (∃ d, (d = 0 ∨ d = 1) ∧ Tab w' p d c) ∧ But p w w' ∧ match r with
   | none => e = .returned (.tuple #[.slice none 0 0, .bool false])
   | some l => ∃ v, e = .returned (.tuple #[v, .bool true]) ∧ Bytes w' v l
theorem last_four (l : List UInt8) (h : 4 ≤ l.length) : l.drop (l.length - 4) = [l[l.length - 4], l[l.length - 3], l[l.length - 2], l[l.length - 1]] := by
 apply List.ext_getElem
 · simp; omega
 · intro i h1 h2
   simp only [List.length_drop] at h1
   have hi : i < 4 := by omega
   rw [List.getElem_drop]
   match i, hi with
   | 0, _ => rfl
   | 1, _ => simp; congr 1; omega
   | 2, _ => simp; congr 1; omega
   | 3, _ => simp; congr 1; omega
set_option maxRecDepth 100000 in
set_option maxHeartbeats 1000000 in
theorem cut_any (p d : Nat) (c : Int) (v : Value) (l : List UInt8) (w : World) (ht : Tab w p d c) (hd : d = 0 ∨ d = 1) (hv : Bytes w v l) (hl : l.length ≤ 200000) :
 Calls Tryz.prog 44 #[.pointer (some ⟨p, 0, none⟩), v] w (TabCuts p (if l.length < 4 then c else bump c) w (Crc.cutOf l)) := by
 have HV := Lib.hid hv
 have HT := Lib.hid ht
 obtain ⟨a, cap, rfl, hcap, hmax, _, hcl⟩ := hv.open
 unfold maxLen at hmax
 by_cases h4 : l.length < 4
 · have hcut : Crc.cutOf l = none := by unfold Crc.cutOf; rw [if_pos h4]
   rw [hcut, if_pos h4]
   clear hcut hcl
   go_enter Tryz.func44, Tryz.ntmps44
   go_wp2
   go_ret2
   exact ⟨⟨d, hd, ht⟩, But.refl _ _, rfl⟩
 · rw [if_neg h4]
   have h4' : 4 ≤ l.length := by omega
   obtain ⟨b, off, rfl, h0⟩ := hcl 0 (by omega)
   have hS : ∀ w', But p w w' → (w'.cell? ⟨b, off + (l.length - 4), none⟩ = some (.int .u8 ((l[l.length - 4]).toNat : Int)) ∧ w'.cell? ⟨b, off + (l.length - 4) + 1, none⟩ = some (.int .u8 ((l[l.length - 3]).toNat : Int)) ∧
    w'.cell? ⟨b, off + (l.length - 4) + 2, none⟩ = some (.int .u8 ((l[l.length - 2]).toNat : Int)) ∧ w'.cell? ⟨b, off + (l.length - 4) + 3, none⟩ = some (.int .u8 ((l[l.length - 1]).toNat : Int))) := by
    intro w' hb
    obtain ⟨a', cap', e', _, _, _, hc1⟩ := (HV.out.but HT.out hb).open
    have key : ∀ i (hi : i < l.length), w'.cell? ⟨b, off + i, none⟩ = some (.int .u8 ((l[i]).toNat : Int)) := by
     intro i hi
     obtain ⟨b', off', e2, hcell⟩ := hc1 i hi
     injection e' with e3
     rw [← e3] at e2
     injection e2 with e2
     injection e2 with e4 e5
     subst e4 e5
     exact hcell
    refine ⟨key _ (by omega), ?_, ?_, ?_⟩
    · rw [show off + (l.length - 4) + 1 = off + (l.length - 3) from by omega]; exact key _ (by omega)
    · rw [show off + (l.length - 4) + 2 = off + (l.length - 2) from by omega]; exact key _ (by omega)
    · rw [show off + (l.length - 4) + 3 = off + (l.length - 1) from by omega]; exact key _ (by omega)
   clear hcl h0
   go_enter Tryz.func44, Tryz.ntmps44
   go_upto_region 4 with fail
   go_cut [24] (fun s24 wx => But p w wx ∧ (∃ d', (d' = 0 ∨ d' = 1) ∧ Tab wx p d' (bump c)) ∧ s24 = .bool (decide (l.take (l.length - 4) ++ Crc.low (Crc.sum (l.take (l.length - 4))) ≠ l)))
   case first =>
    have hcn : ¬ cap = l.length - 4 := by omega
    have hrow : ∀ w' : World, But p w w' → Rows (w'.alloc (.cells #[.slice (some ⟨b, off, none⟩) (l.length - 4) cap] 38)) (.slice (some ⟨w'.heap.size, 0, none⟩) 1 1) [l.take (l.length - 4)] :=
     fun w' hb => Rows.made 38 ((HV.out.but HT.out hb).take (l.length - 4) (by omega))
    have HR := Lib.hid hrow
    have hSd := hS w.drew (But.drew p (But.refl p w))
    clear hrow
    have heq4 : ∀ (x0 x1 x2 x3 y0 y1 y2 y3 : Int) (w' : World), (Op.equalIn 10000 117 (.agg #[.int .u8 x0, .int .u8 x1, .int .u8 x2, .int .u8 x3]) (.agg #[.int .u8 y0, .int .u8 y1, .int .u8 y2, .int .u8 y3])).run Tryz.prog w' = .ok (x0 == y0 && (x1 == y1 && (x2 == y2 && x3 == y3))) w' := fun x0 x1 x2 x3 y0 y1 y2 y3 w' => run_arr4 9998 Tryz.underlying117 Tryz.underlying5 (by kernel_rfl) x0 x1 x2 x3 y0 y1 y2 y3
    have hpw : p < w.heap.size := World.block_lt_of_cell? w _ ht.done
    have hbd : But p w (w.alloc (.cells #[.slice (some ⟨b, off, none⟩) (l.length - 4) cap] 38)).drew := But.drew p (But.alloc (But.refl p w) _)
    have htd : Tab (w.alloc (.cells #[.slice (some ⟨b, off, none⟩) (l.length - 4) cap] 38)).drew p d c := by
     unfold Tab at ht ⊢
     show (w.alloc _).heap[p]? = _
     rw [Below.heap_alloc _ _ _ hpw]; exact ht
    have hrd : Rows (w.alloc (.cells #[.slice (some ⟨b, off, none⟩) (l.length - 4) cap] 38)).drew (.slice (some ⟨w.heap.size, 0, none⟩) 1 1) [l.take (l.length - 4)] := (HR.out w (But.refl p w)).below (Ext.drew _)
    have hslt := Crc.more_lt 0 (l.take (l.length - 4))
    have hsa : ∀ w' : World, (Instr.sliceAt 38 (.slice (some ⟨b, off, none⟩) l.length cap) (some (.int .i64 ((l.length : Int) - 4))) none none).run Tryz.prog w' = .ok (.slice (some ⟨b, off + (l.length - 4), none⟩) 4 (cap - (l.length - 4))) w' := by
     intro w'
     have e1 : (l.length : Int) - 4 = ((l.length - 4 : Nat) : Int) := by omega
     have e2 : l.length - (l.length - 4) = 4 := by omega
     have := run_sl_from (P := Tryz.prog) (w := w') Tryz.underlying38 (by kernel_rfl) (a := some ⟨b, off, none⟩) (n := l.length) (cap := cap) (l.length - 4) (by omega) .i64
     rw [e1, this, e2, if_neg hcn]
     simp only [Option.map_some, Addr.add_lit]
    have hsb : ∀ w' : World, (Instr.sliceAt 38 (.slice (some ⟨b, off, none⟩) l.length cap) none (some (.int .i64 ((l.length : Int) - 4))) none).run Tryz.prog w' = .ok (.slice (some ⟨b, off, none⟩) (l.length - 4) cap) w' := by
     intro w'
     have e1 : (l.length : Int) - 4 = ((l.length - 4 : Nat) : Int) := by omega
     rw [e1]
     exact run_sl_to (P := Tryz.prog) Tryz.underlying38 (by kernel_rfl) _ (by omega) .i64
    have harr : ∀ w' : World, (Instr.arrayAt 117 (.slice (some ⟨b, off + (l.length - 4), none⟩) 4 (cap - (l.length - 4)))).run Tryz.prog w' = .ok (.pointer (some ⟨b, off + (l.length - 4), none⟩)) w' := fun w' => run_arrayAt w' 117 5 4 _ 4 _ Tryz.underlying117 (by omega)
    go_region_held3 (fun w' => w'.cell? ⟨b, off + (l.length - 4), none⟩ = some (.int .u8 ((l[l.length - 4]).toNat : Int)) ∧ w'.cell? ⟨b, off + (l.length - 4) + 1, none⟩ = some (.int .u8 ((l[l.length - 3]).toNat : Int)) ∧ w'.cell? ⟨b, off + (l.length - 4) + 2, none⟩ = some (.int .u8 ((l[l.length - 2]).toNat : Int)) ∧ w'.cell? ⟨b, off + (l.length - 4) + 3, none⟩ = some (.int .u8 ((l[l.length - 1]).toNat : Int))) (first | exact hSd | exact hS _ (by assumption) | exact hS _ (But.alloc (But.drew p (But.refl p w)) _)) (first | (go_at_call 61; refine (sum_any p d c _ [l.take (l.length - 4)] _ htd hd hrd).mono ?_; rintro e w1 ⟨rfl, hb1, d1, hd1, ht1⟩; rw [List.flatten_singleton]; have hbw := hbd.trans hb1) | (go_at_call 60; refine (low_any (Crc.sum (l.take (l.length - 4))) _ hslt).mono ?_; rintro e w2 ⟨b0, b1, b2, b3, rfl, hlow, hb2⟩; have hbw2 := hbw.trans (Ext.but hb2 p)))
    all_goals
     go_wp2_with fail
     go_meet
     refine ⟨hbw2, ⟨d1, hd1, ?_⟩, congrArg Value.bool ?_⟩
     · unfold Tab at ht1 ⊢
       rw [hb2.block p (World.block_lt_of_cell? w1 _ (Tab.done ht1))]; exact ht1
     · have hsplit : l = l.take (l.length - 4) ++ [l[l.length - 4], l[l.length - 3], l[l.length - 2], l[l.length - 1]] := by
        conv => lhs; rw [← List.take_append_drop (l.length - 4) l]
        rw [last_four l h4']
       rw [Bool.eq_iff_iff]
       simp only [Bool.or_eq_true, Bool.not_eq_true', decide_eq_true_eq, beq_eq_false_iff_ne, ne_eq]
       rw [hlow.out]
       conv => rhs; rw [show (l.take (l.length - 4) ++ [b0, b1, b2, b3] = l) = (l.take (l.length - 4) ++ [b0, b1, b2, b3] = l.take (l.length - 4) ++ [l[l.length - 4], l[l.length - 3], l[l.length - 2], l[l.length - 1]]) from congrArg _ hsplit]
       rw [List.append_cancel_left_eq]
       simp only [List.cons.injEq, and_true]
       have key : ∀ x y : UInt8, ((x.toNat : Int) = (y.toNat : Int)) ↔ y = x := fun x y => ⟨fun h => (UInt8.toNat_inj.mp (by omega)), fun h => by rw [h]⟩
       rw [key, key, key, key]
       constructor
       · intro h hh
         obtain ⟨h0, h1, h2, h3⟩ := hh
         rcases h with h | h | h | h <;> contradiction
       · intro h
         by_cases q0 : b0 = l[l.length - 4]
         · by_cases q1 : b1 = l[l.length - 3]
           · by_cases q2 : b2 = l[l.length - 2]
             · exact Or.inr (Or.inr (Or.inr fun q3 => h ⟨q0, q1, q2, q3⟩))
             · exact Or.inr (Or.inr (Or.inl q2))
           · exact Or.inr (Or.inl q1)
         · exact Or.inl q0
   case rest =>
    obtain ⟨hbc, ⟨d', hd', htc⟩, rfl⟩ := hcut
    by_cases hq : l.take (l.length - 4) ++ Crc.low (Crc.sum (l.take (l.length - 4))) = l
    · have hcut : Crc.cutOf l = some (l.take (l.length - 4)) := by unfold Crc.cutOf; rw [if_neg h4, if_pos hq]
      have hdd : decide (l.take (l.length - 4) ++ Crc.low (Crc.sum (l.take (l.length - 4))) ≠ l) = false := by simp [hq]
      rw [hdd]
      have hsb : ∀ w' : World, (Instr.sliceAt 38 (.slice (some ⟨b, off, none⟩) l.length cap) none (some (.int .i64 ((l.length : Int) - 4))) none).run Tryz.prog w' = .ok (.slice (some ⟨b, off, none⟩) (l.length - 4) cap) w' := by
       intro w'
       have e1 : (l.length : Int) - 4 = ((l.length - 4 : Nat) : Int) := by omega
       rw [e1]
       exact run_sl_to (P := Tryz.prog) Tryz.underlying38 (by kernel_rfl) _ (by omega) .i64
      have hsl : Sl wc (.slice (some ⟨b, off, none⟩) (l.length - 4) cap) (u8s (l.take (l.length - 4))) := (HV.out.but HT.out hbc).take (l.length - 4) (by omega)
      have hc1 : 0 + (u8s (l.take (l.length - 4))).length ≤ maxLen := by simp [maxLen]; omega
      have hc2 : (0 + (u8s (l.take (l.length - 4))).length) * 1 ≤ 140737488355328 := by simp; omega
      have HC := Lib.hid hcut
      clear hq hdd hcut hS
      go_wp2_with (at_builtin; refine wpList_app rfl (.const (.slice none 0 0)) (.tmp 27) tU8c rfl (base := w.heap.size) (v := .slice none 0 0) (n := 0) (xs := []) rfl rfl (World.ownsRow_nil _ _ _ _) hsl (u8s_one _) hc1 hc2 hbc.size ?_; intro v1 w1 hown1 hg1)
      go_ret2
      have hpw : p < w.heap.size := World.block_lt_of_cell? w _ (Tab.done HT.out)
      refine ⟨⟨d', hd', ?_⟩, hbc.grown hg1 (by intro k hk; simp [Value.ownBlock] at hk), ?_⟩
      · unfold Tab at htc ⊢
        rw [hg1.block p (Nat.lt_of_lt_of_le hpw hbc.size) (by simp [Value.ownBlock])]; exact htc
      · rw [HC.out]
        exact ⟨_, rfl, by have := Sl.ofOwn hown1; simpa [Bytes] using this⟩
    · have hcut : Crc.cutOf l = none := by unfold Crc.cutOf; rw [if_neg h4, if_neg hq]
      have hdd : decide (l.take (l.length - 4) ++ Crc.low (Crc.sum (l.take (l.length - 4))) ≠ l) = true := by simp [hq]
      rw [hdd]
      have HC := Lib.hid hcut
      clear hq hdd hcut hS
      go_wp2
      go_ret2
      exact ⟨⟨d', hd', htc⟩, hbc, by rw [HC.out]; rfl⟩
theorem ret_u32 {a b : Int} (h : a = b) : Ending.returned (.int .u32 a) = .returned (.int .u32 b) := by rw [h]
set_option maxHeartbeats 400000 in
theorem added_any (n : Nat) (x : UInt8) (w : World) (h : n < 4294967296) :
 Calls Tryz.prog 138 #[.int .u32 (n : Int), .int .u8 (x.toNat : Int)] w fun e w' => e = .returned (.int .u32 (Crc.byte n x : Int)) ∧ w = w' := by
 have hx := x.toNat_lt
 have h0 : n ^^^ x.toNat < 4294967296 := Crc.xor_lt _ _ h (by omega)
 have hb : bits .xor .u32 (n : Int) (x.toNat : Int) = ((n ^^^ x.toNat : Nat) : Int) := u32_xor_nat _ _ h (by omega)
 go_enter Tryz.func138, Tryz.ntmps138
 go_wp2
 go_loop [0, 5] (fun n' i => ∃ k m : Nat, k ≤ 8 ∧ m < 4294967296 ∧ i = .int .i64 k ∧ n' = .int .u32 m ∧ Hid (Crc.byte n x = Crc.steps (8 - k) m)) (fun _ i => 8 - (intOf i).toNat)
 case atStart => exact ⟨0, n ^^^ x.toNat, by omega, h0, rfl, rfl, rfl⟩
 case round =>
  obtain ⟨k, m, hk, hm, rfl, rfl, hr⟩ := hrel
  have hm2 : m / 2 < 4294967296 := by omega
  have hd : ((m : Int) / 2) = ((m / 2 : Nat) : Int) := by omega
  have hxx : bits .xor .u32 ((m : Int) / 2) 3988292384 = (((m / 2) ^^^ 3988292384 : Nat) : Int) := by rw [hd]; exact u32_xor_nat _ 3988292384 hm2 (by decide)
  have HX := Lib.hid hxx
  have HD := Lib.hid hd
  clear hxx hd hb
  by_cases hk8 : k < 8
  · have e8 : 8 - k = (8 - (k + 1)) + 1 := by omega
    have hs : Hid (Crc.byte n x = Crc.steps (8 - (k + 1)) (Crc.step m)) := by
     have := hr.out; rw [e8] at this; exact this
    have hl := Crc.step_lt m hm
    clear e8
    by_cases ho : m % 2 = 1
    · have ho' : ((m : Int) % 2 == 1) = true := by simp; omega
      have he : Hid (Crc.step m = (m / 2) ^^^ 3988292384) := by unfold Crc.step Hid; rw [if_pos ho]
      clear ho
      go_wp2
      go_round
      case rel => exact ⟨k + 1, Crc.step m, by omega, hl, by go_num, by rw [HX.out, he.out], hs⟩
      case measure => simp [intOf]; omega
    · have ho' : ((m : Int) % 2 == 1) = false := by simp; omega
      have he : Hid (Crc.step m = m / 2) := by unfold Crc.step Hid; rw [if_neg ho]
      clear ho
      go_wp2
      go_round
      case rel => exact ⟨k + 1, Crc.step m, by omega, hl, by go_num, by rw [HD.out, he.out], hs⟩
      case measure => simp [intOf]; omega
  · have hs : Hid (Crc.byte n x = m) := by
     have := hr.out; rw [show 8 - k = 0 from by omega] at this; exact this
    clear hr
    go_wp2
    go_ret
    exact ⟨ret_u32 (by rw [hs.out]), rfl⟩
set_option maxHeartbeats 400000 in
theorem more_ref (s : Nat) (v : Value) (l : List UInt8) (w : World) (h : s < 4294967296) (hv : Bytes w v l) :
 Calls Tryz.prog 122 #[.int .u32 (s : Int), v] w fun e w' => e = .returned (.int .u32 (Crc.more s l : Int)) ∧ w = w' := by
 obtain ⟨a, cap, rfl, hcap, hmax, _, hc⟩ := hv.open
 unfold maxLen at hmax
 have h0 : 4294967295 - s < 4294967296 := by omega
 have hd : (4294967295 - (s : Int)) = ((4294967295 - s : Nat) : Int) := by omega
 go_enter Tryz.func122, Tryz.ntmps122
 go_wp2
 go_loop [5, 6] (fun n' i => ∃ k m : Nat, k ≤ l.length ∧ m < 4294967296 ∧ i = .int .i64 k ∧ n' = .int .u32 m ∧ Hid (m = Crc.run (4294967295 - s) (l.take k))) (fun _ i => l.length - (intOf i).toNat)
 case atStart => exact ⟨0, 4294967295 - s, by omega, h0, rfl, rfl, rfl⟩
 case round =>
  obtain ⟨k, m, hk, hm, rfl, rfl, hr⟩ := hrel
  clear hd
  by_cases hlt : k < l.length
  · obtain ⟨b, off, rfl, hcell⟩ := hc k hlt
    clear hc
    have hn := Crc.byte_lt m l[k] hm
    go_wp2_with (go_at_call 138; refine (added_any m l[k] _ hm).mono ?_; rintro e w' ⟨rfl, rfl⟩)
    go_round
    case rel => exact ⟨k + 1, Crc.byte m l[k], by omega, hn, by go_num, rfl, by unfold Hid; rw [take_succ_getD l k hlt, Crc.run_append, ← hr.out]; rfl⟩
    case measure => simp [intOf]; omega
  · have hs : Hid (m = Crc.run (4294967295 - s) l) := by
     have := hr.out; rw [List.take_of_length_le (by omega)] at this; exact this
    clear hr hc
    go_wp2
    go_ret
    exact ⟨ret_u32 (by unfold Crc.more; rw [← hs.out]; omega), rfl⟩
set_option maxHeartbeats 400000 in
theorem sum_ref (v : Value) (l : List UInt8) (w : World) (hv : Bytes w v l) :
 Calls Tryz.prog 77 #[v] w fun e w' => e = .returned (.int .u32 (Crc.sum l : Int)) ∧ w = w' := by
 go_enter Tryz.func77, Tryz.ntmps77
 go_wp2_with (go_at_call 122; refine (more_ref 0 v l _ (by decide) hv).mono ?_; rintro e w' ⟨rfl, rfl⟩)
 go_ret
 exact ⟨rfl, rfl⟩
theorem tU8 : ElemOf Tryz.prog 38 5 (.int .u8 0) 1 := ⟨Tryz.underlying38, by kernel_rfl, rfl⟩
def lows (n : Nat) : Nat → List UInt8
 | 0 => []
 | k + 1 => lows n k ++ [UInt8.ofNat (n / 256 ^ k)]
theorem lows_four (n : Nat) : lows n 4 = Crc.low n := by simp [lows, Crc.low]
set_option maxRecDepth 100000 in
set_option maxHeartbeats 1000000 in
theorem put_ref (v : Value) (l : List UInt8) (w : World) (hv : Bytes w v l) (hl : l.length ≤ 100000) :
 Calls Tryz.prog 27 #[v] w (GivesBytes w (l ++ Crc.low (Crc.sum l))) := by
 have hu := u8s_one l
 have hs := Crc.more_lt 0 l
 go_enter Tryz.func27, Tryz.ntmps27
 go_wp2_with (first | (at_builtin; refine wpList_app rfl (.tmp 6) (.tmp 7) tU8 rfl (base := w.heap.size) (v := .slice (some ⟨w.heap.size, 0, none⟩) 0 0) (u := v) (n := 0) (xs := []) (ys := u8s l) rfl rfl ?c1 ?c2 hu ?c3 ?c4 ?c5 ?_; rotate_right; intro v1 w1 hown1 hg1))
 case c1 => exact World.ownsRow_made w #[] 0 (Nat.le_refl _) (by simp [maxLen]) (by simp)
 case c2 => exact hv.below ((Below.refl _ w).alloc (Nat.le_refl _) _)
 case c3 => simp [maxLen]; omega
 case c4 => simp; omega
 case c5 => simp
 have hb1 : Below w.heap.size w w1 := ((Below.refl _ w).alloc (Nat.le_refl _) _).grown hg1 (by simp) (by intro k hk; simp [Value.ownBlock] at hk; omega)
 refine (sum_ref v l w1 (hv.below hb1)).mono ?_
 rintro e w' ⟨rfl, rfl⟩
 have hown : w1.ownsRow w.heap.size 5 1 v1 l.length (u8s l) := by simpa using hown1
 clear hown1 hg1 hu
 go_wp2
 go_loopw [3, 4, 5] (fun b n i wr => ∃ k m : Nat, k ≤ 4 ∧ i = .int .i64 k ∧ n = .int .u32 m ∧ Hid (m = Crc.sum l / 256 ^ k) ∧ wr.ownsRow w.heap.size 5 1 b (l.length + k) (u8s (l ++ lows (Crc.sum l) k)) ∧ Below w.heap.size w wr) (fun _ _ i _ => 4 - (intOf i).toNat)
 case atStart => exact ⟨0, Crc.sum l, by omega, rfl, rfl, by simp [Hid], by simpa [lows] using hown, hb1⟩
 case round =>
  obtain ⟨k, m, hk, rfl, rfl, hm, ho, hbr⟩ := hrel
  have hm2 : m < 4294967296 := by
   rw [hm.out]; exact Nat.lt_of_le_of_lt (Nat.div_le_self _ _) hs
  by_cases hk4 : k < 4
  · have hone := u8s_one [UInt8.ofNat m]
    have hsz := hbr.size
    go_wp2_with (first | (at_builtin; refine wpList_app rfl (.tmp 15) (.tmp 19) tU8 rfl (base := w.heap.size) (n := l.length + k) (xs := u8s (l ++ lows (Crc.sum l) k)) (ys := u8s [UInt8.ofNat m]) rfl rfl (ho.alloc _) ?c2 hone ?c3 ?c4 ?c5 ?_; rotate_right; intro v2 w2 hown2 hg2))
    case c2 =>
     have := Sl.made wr (u8s [UInt8.ofNat m]) 5 1 (by simp) (by simp [maxLen]) (fr := (0, 0))
     simp only [u8s, List.map_cons, List.map_nil, u8_ofNat] at this ⊢
     exact this
    case c3 => simp [maxLen]; omega
    case c4 => simp; omega
    case c5 => simp; omega
    go_roundw
    case rel =>
     refine ⟨k + 1, m / 256, by omega, by go_num, by go_num, ?_, ?_, ?_⟩
     · unfold Hid; rw [hm.out, Nat.pow_succ, Nat.div_div_eq_div_mul]
     · have := hown2
       rw [hm.out] at this
       simpa [lows, Nat.add_assoc] using this
     · exact (hbr.alloc hsz _).grown hg2 (by simp; omega) (by intro k hk; have := ho.lt k hk; omega)
    case measure => simp [intOf]; omega
  · obtain rfl : k = 4 := by omega
    rw [lows_four] at ho
    go_wp2
    go_ret
    exact ⟨_, rfl, Sl.ofOwn ho, hbr⟩
def GivesCut (w : World) (r : Option (List UInt8)) (e : Ending) (w' : World) : Prop :=
 Below w.heap.size w w' ∧ match r with
  | none => e = .returned (.tuple #[.slice none 0 0, .bool false])
  | some l => ∃ v, e = .returned (.tuple #[v, .bool true]) ∧ Bytes w' v l
set_option maxRecDepth 100000 in
set_option maxHeartbeats 1000000 in
theorem cut_ref (v : Value) (l : List UInt8) (w : World) (hv : Bytes w v l) (hl : l.length ≤ 100000) :
 Calls Tryz.prog 49 #[v] w (GivesCut w (Crc.cutOf l)) := by
 have hv0 := hv
 obtain ⟨a, cap, rfl, hcap, hmax, hn, hc⟩ := hv.open
 unfold maxLen at hmax
 by_cases h4 : l.length < 4
 · have hcut : Crc.cutOf l = none := by unfold Crc.cutOf; rw [if_pos h4]
   rw [hcut]
   clear hcut hc hn
   go_enter Tryz.func49, Tryz.ntmps49
   go_wp2
   go_ret2
   exact ⟨Below.refl _ _, rfl⟩
 · obtain ⟨b, off, rfl, _⟩ := hc 0 (by omega)
   go_enter Tryz.func49, Tryz.ntmps49
   clear hc hn
   have h1 : Bytes w (.slice (some ⟨b, off, none⟩) (l.length - 4) cap) (l.take (l.length - 4)) := hv0.take (l.length - 4) (by omega)
   have hs1 : ∀ w', Below w.heap.size w w' → (convert 38 9 (.slice (some ⟨b, off, none⟩) l.length cap)).run Tryz.prog w' = .ok (.string ⟨l.toArray⟩) w' := fun w' hb => run_str _ _ 5 Tryz.underlying38 Tryz.underlying5 Tryz.underlying9 (hv0.below hb)
   have hs2 : ∀ w' v' l', Bytes w' v' l' → (convert 38 9 v').run Tryz.prog w' = .ok (.string ⟨l'.toArray⟩) w' := fun w' v' l' h => run_str _ _ 5 Tryz.underlying38 Tryz.underlying5 Tryz.underlying9 h
   go_upto_region 4 with fail
   go_cut [18] (fun s18 wx => Below w.heap.size w wx ∧ s18 = .bool (decide (l.take (l.length - 4) ++ Crc.low (Crc.sum (l.take (l.length - 4))) ≠ l)))
   case first =>
    refine wp_region_facts (by kernel_rfl) Ext (fun iop v w => match iop with
     | 0 => v = .slice (some ⟨b, off, none⟩) (l.length - 4) cap
     | 1 => Bytes w v (l.take (l.length - 4) ++ Crc.low (Crc.sum (l.take (l.length - 4))))
     | 2 => v = .string ⟨(l.take (l.length - 4) ++ Crc.low (Crc.sum (l.take (l.length - 4)))).toArray⟩
     | 3 => v = .slice (some ⟨b, off, none⟩) l.length cap
     | 4 => v = .string ⟨l.toArray⟩
     | _ => v = .bool (decide (l.take (l.length - 4) ++ Crc.low (Crc.sum (l.take (l.length - 4))) ≠ l))
     ) (by kernel_rfl) (fun _ _ _ h k => Ext.trans h k) (fun a => Ext.refl a) (Ext.drew _) ?_ ?_ ?_
    · intro iop v wa wb hF hL
      rcases iop with _ | iop; exact hF
      rcases iop with _ | iop; (first | exact hF | exact Bytes.below hF hL | exact Sl.below hF hL)
      iterate 3 (rcases iop with _ | iop; exact hF)
      exact hF
    · refine Obls.cons ?_ (Obls.cons ?_ (Obls.cons ?_ (Obls.cons ?_ (Obls.cons ?_ (Obls.cons ?_ (Obls.nil))))))
      · intro ev wy hp hl hk hd
        have e4 : ev (.tmp 4) = .slice (some ⟨b, off, none⟩) (l.length - 4) cap := hk 4 (by decide)
        clear hk hd
        exact Yield.mv rfl ⟨Ext.refl _, e4⟩
      · intro ev wy hp hl hk hd
        have e13 : ev (.tmp 13) = .slice (some ⟨b, off, none⟩) (l.length - 4) cap := hk 13 (by decide)
        clear hk hd
        refine Yield.call rfl hp Tryz.func27 rfl (by kernel_rfl) ?_
        simp only [List.map_toArray, List.map_cons, List.map_nil, e13]
        exact (put_ref _ _ _ (h1.below hl) (by simp; omega)).mono fun e w' ⟨v', he, hv', hb'⟩ => ⟨v', he, hb', hv'⟩
      · intro ev wy hp hl hk hd
        have f14 : (fun (v : Value) (w : World) => Bytes w v (l.take (l.length - 4) ++ Crc.low (Crc.sum (l.take (l.length - 4))))) (ev (.tmp 14)) wy := hk 14 (by decide)
        generalize hx14 : ev (.tmp 14) = x14 at *
        clear hk hd
        exact Yield.conv rfl hx14 (hs2 _ _ _ f14) ⟨Ext.refl _, rfl⟩
      · intro ev wy hp hl hk hd
        have e0 : ev (.tmp 0) = .slice (some ⟨b, off, none⟩) l.length cap := hk 0 (by decide)
        clear hk hd
        exact Yield.mv rfl ⟨Ext.refl _, e0⟩
      · intro ev wy hp hl hk hd
        have e16 : ev (.tmp 16) = .slice (some ⟨b, off, none⟩) l.length cap := hk 16 (by decide)
        clear hk hd
        exact Yield.conv rfl e16 (hs1 _ hl) ⟨Ext.refl _, rfl⟩
      · intro ev wy hp hl hk hd
        have e15 : ev (.tmp 15) = .string ⟨(l.take (l.length - 4) ++ Crc.low (Crc.sum (l.take (l.length - 4)))).toArray⟩ := hk 15 (by decide)
        have e17 : ev (.tmp 17) = .string ⟨l.toArray⟩ := hk 17 (by decide)
        clear hk hd
        exact Yield.op (w' := wy) (by simp [execOp, go_sem, e15, e17]; rw [Bool.eq_iff_iff]; simp) ⟨Ext.refl _, rfl⟩
    · intro vals wz hz hv
      have g13 : vals 0 = .slice (some ⟨b, off, none⟩) (l.length - 4) cap := hv 0 (by decide)
      have g14 : (fun (v : Value) (w : World) => Bytes w v (l.take (l.length - 4) ++ Crc.low (Crc.sum (l.take (l.length - 4))))) (vals 1) wz := hv 1 (by decide)
      have g15 : vals 2 = .string ⟨(l.take (l.length - 4) ++ Crc.low (Crc.sum (l.take (l.length - 4)))).toArray⟩ := hv 2 (by decide)
      have g16 : vals 3 = .slice (some ⟨b, off, none⟩) l.length cap := hv 3 (by decide)
      have g17 : vals 4 = .string ⟨l.toArray⟩ := hv 4 (by decide)
      have g18 : vals 5 = .bool (decide (l.take (l.length - 4) ++ Crc.low (Crc.sum (l.take (l.length - 4))) ≠ l)) := hv 5 (by decide)
      clear hv
      simp only [putAll, Act.put, List.setIfInBounds_toArray, List.set_cons_zero, List.set_cons_succ, g13, g15, g16, g17, g18]
      clear g13
      generalize vals 1 = v14 at *
      clear g15
      clear g16
      clear g17
      clear g18
      go_wp2_with fail
      go_meet
      exact ⟨hz, rfl⟩
   case rest =>
    obtain ⟨hb, rfl⟩ := hcut
    by_cases hq : l.take (l.length - 4) ++ Crc.low (Crc.sum (l.take (l.length - 4))) = l
    · have hcut : Crc.cutOf l = some (l.take (l.length - 4)) := by unfold Crc.cutOf; rw [if_neg h4, if_pos hq]
      have hd : decide (l.take (l.length - 4) ++ Crc.low (Crc.sum (l.take (l.length - 4))) ≠ l) = false := by simp [hq]
      rw [hd]
      clear hq hs1 hs2 hd
      go_wp2
      go_ret2
      exact ⟨hb, by rw [hcut]; exact ⟨_, rfl, h1.below hb⟩⟩
    · have hcut : Crc.cutOf l = none := by unfold Crc.cutOf; rw [if_neg h4, if_neg hq]
      have hd : decide (l.take (l.length - 4) ++ Crc.low (Crc.sum (l.take (l.length - 4))) ≠ l) = true := by simp [hq]
      rw [hd]
      clear hq hs1 hs2 hd
      go_wp2
      go_ret2
      exact ⟨hb, by rw [hcut]; rfl⟩
theorem Rows.nil (w : World) : Rows w (.slice none 0 0) [] := ⟨[], ⟨none, 0, rfl, Nat.le_refl _, by simp [maxLen], fun _ => rfl, fun i hi => absurd hi (by simp)⟩, rfl, fun i h => absurd h (by simp)⟩
theorem Tab.ext {w w' : World} {p d : Nat} {c : Int} (h : Tab w p d c) (hb : Ext w w') : Tab w' p d c := by
 have hp : p < w.heap.size := World.block_lt_of_cell? w _ h.done
 unfold Tab at h ⊢
 rw [hb.block p hp]; exact h
theorem Tab.lt {w : World} {p d : Nat} {c : Int} (h : Tab w p d c) : p < w.heap.size := World.block_lt_of_cell? w _ h.done
end Go.Proofs.YtldfpklgbedgjaaGreat
