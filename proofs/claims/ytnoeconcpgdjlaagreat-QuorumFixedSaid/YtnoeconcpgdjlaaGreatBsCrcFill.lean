import Derived.Test.YtnoeconcpgdjlaaGreatProg
import Derived.Test.YtnoeconcpgdjlaaGreatBsLib
import Derived.Test.YtnoeconcpgdjlaaGreatBsMath
set_option linter.unusedSimpArgs false
set_option linter.unusedVariables false
namespace Go.Proofs.YtnoeconcpgdjlaaGreat
set_option maxRecDepth 100000
open Go.RowKit
theorem zk6 {a b : Int} (h : a = b) : Ending.returned (.int .u32 a) = .returned (.int .u32 b) := by rw [h]
set_option maxHeartbeats 400000 in
theorem zow (n : Nat) (w : World) (h : n < 4294967296) :
 Calls Tryz.prog 173 #[.int .u32 (n : Int)] w fun e w' => e = .returned (.int .u32 (Crc.step n : Int)) /\ w = w' := by
 have hd : ((n : Int) / 2) = ((n / 2 : Nat) : Int) := by omega
 have hxx : bits .xor .u32 ((n : Int) / 2) 3988292384 = (((n / 2) ^^^ 3988292384 : Nat) : Int) := by rw [hd]; exact u32_xor_nat _ 3988292384 (by omega) (by decide)
 have hand : bits .and .u32 (n : Int) 1 = ((n &&& 1 : Nat) : Int) := u32_and_nat n 1 h (by decide)
 have hm : n &&& 1 = n % 2 := Nat.and_one_is_mod n
 have HX := Hi hxx
 have HD := Hi hd
 clear hxx hd
 by_cases ho : n % 2 = 1
 . have hb : (bits .and .u32 (n : Int) 1 == 1) = true := by rw [hand, hm, ho]; rfl
   have he : Hid (Crc.step n = (n / 2) ^^^ 3988292384) := by unfold Crc.step Hid; rw [if_pos ho]
   clear hand hm ho
   go_enter Tryz.func173, Tryz.ntmps173
   go_wp2
   go_ret
   exact ⟨zk6 (by rw [HX.out, he.out]), rfl⟩
 . have h0 : n % 2 = 0 := by omega
   have hb : (bits .and .u32 (n : Int) 1 == 1) = false := by rw [hand, hm, h0]; rfl
   have he : Hid (Crc.step n = n / 2) := by unfold Crc.step Hid; rw [if_neg ho]
   clear hand hm ho h0
   go_enter Tryz.func173, Tryz.ntmps173
   go_wp2
   go_ret
   exact ⟨zk6 (by rw [HD.out, he.out]), rfl⟩
structure Filled (cs cs0 : Array Value) (m : Nat) : Prop where
 size : cs.size = 260
 all : ∀ i, i < 256 -> ∃ x : Nat, cs[3 + i]? = some (.int .u32 (x : Int)) /\ x < 4294967296 /\ (i % m = 0 -> x = Crc.steps 8 i)
 rest : ∀ i, i < 3 \/ 259 <= i -> cs[i]? = cs0[i]?
structure Mid (cs cs0 : Array Value) (b lim : Nat) : Prop where
 size : cs.size = 260
 all : ∀ i, i < 256 -> ∃ x : Nat, cs[3 + i]? = some (.int .u32 (x : Int)) /\ x < 4294967296 /\ (i % (2 * b) = 0 -> x = Crc.steps 8 i) /\ (i % b = 0 -> i < lim -> x = Crc.steps 8 i)
 rest : ∀ i, i < 3 \/ 259 <= i -> cs[i]? = cs0[i]?
theorem Mid.start {cs cs0 : Array Value} {b : Nat} (h : Filled cs cs0 (2 * b)) : Mid cs cs0 b 0 :=
 ⟨h.size, fun i hi => by obtain ⟨x, h1, h2, h3⟩ := h.all i hi; exact ⟨x, h1, h2, h3, fun _ h => absurd h (by omega)⟩, h.rest⟩
theorem Mid.finish {cs cs0 : Array Value} {b lim : Nat} (h : Mid cs cs0 b lim) (hl : 256 <= lim) : Filled cs cs0 b :=
 ⟨h.size, fun i hi => by obtain ⟨x, h1, h2, _, h3⟩ := h.all i hi; exact ⟨x, h1, h2, fun hm => h3 hm (by omega)⟩, h.rest⟩
theorem Mid.next {cs cs0 : Array Value} {b a : Nat} (h : Mid cs cs0 b a) (hb : 0 < b) (ha : a % (2 * b) = 0) (hab : a + 2 * b <= 256) (hlt : Crc.steps 8 (a + b) < 4294967296) :
 Mid (cs.setIfInBounds (3 + (a + b)) (.int .u32 (Crc.steps 8 (a + b) : Nat))) cs0 b (a + 2 * b) := by
 refine ⟨by simp [h.size], fun i hi => ?_, fun i hi => ?_⟩
 . by_cases e : i = a + b
   . subst e
     refine ⟨Crc.steps 8 (a + b), by rw [Array.getElem?_setIfInBounds_self]; simp [h.size]; omega, hlt, fun _ => rfl, fun _ _ => rfl⟩
   . obtain ⟨x, h1, h2, h3, h4⟩ := h.all i hi
     refine ⟨x, by rw [Array.getElem?_setIfInBounds_ne (by omega)]; exact h1, h2, h3, fun hm hl => ?_⟩
     by_cases hia : i < a
     . exact h4 hm hia
     . apply h3
       obtain ⟨d, hd⟩ : ∃ d, i = a + d := ⟨i - a, by omega⟩
       subst hd
       obtain ⟨q, hq⟩ : ∃ q, a = 2 * b * q := ⟨a / (2 * b), by have := Nat.div_add_mod a (2 * b); omega⟩
       have hda : (a + d) % b = d % b := by
        rw [hq, show 2 * b * q = b * (2 * q) from by ac_rfl, Nat.mul_add_mod]
       rw [hda] at hm
       have hd2 : d < 2 * b := by omega
       have hdb : d ≠ b := by omega
       have hd0 : d = 0 := by
        obtain ⟨r, hr⟩ : ∃ r, d = b * r := ⟨d / b, by have := Nat.div_add_mod d b; omega⟩
        match r, hr with
        | 0, hr => simpa using hr
        | 1, hr => omega
        | r + 2, hr => rw [Nat.mul_add] at hr; omega
       subst hd0
       exact ha
 . rw [Array.getElem?_setIfInBounds_ne (by omega)]; exact h.rest i hi
set_option maxRecDepth 100000 in
set_option maxHeartbeats 1600000 in
theorem zr2 (p : Nat) (cs0 : Array Value) (w : World) (h : w.heap[p]? = some (.cells cs0 234 (0, 0))) (hs : cs0.size = 260) (hz : ∀ i, i < 256 -> cs0[3 + i]? = some (.int .u32 0)) :
 Calls Tryz.prog 170 #[.pointer (some ⟨p, 0, none⟩)] w (fun e w' => e = .returned (.tuple #[]) /\ But p w w' /\ ∃ cs, w'.heap[p]? = some (.cells cs 234 (0, 0)) /\ Filled cs cs0 1) := by
 have hf0 : Filled cs0 cs0 (2 ^ 8) := ⟨hs, fun i hi => ⟨0, hz i hi, by decide, fun hm => by
  have : i = 0 := by omega
  subst this; decide⟩, fun _ _ => rfl⟩
 clear hs hz
 go_enter Tryz.func170, Tryz.ntmps170
 go_wp2
 go_loopw [2, 3, 4] (fun d b _ wr => ∃ k : Nat, k <= 8 /\ d = .int .u32 (Crc.steps k 1 : Nat) /\ b = .int .i64 ((2 ^ (8 - k) / 2 : Nat) : Int) /\ But p w wr /\ ∃ cs, wr.heap[p]? = some (.cells cs 234 (0, 0)) /\ Filled cs cs0 (2 ^ (8 - k))) (fun _ b _ _ => (intOf b).toNat)
 case atStart => exact ⟨0, by omega, rfl, rfl, But.refl _ _, cs0, h, hf0⟩
 case round =>
  clear h hf0
  obtain ⟨k, hk, rfl, rfl, hbut, cs, hh, hfl⟩ := hrel
  by_cases h8 : k < 8
  . obtain ⟨b, hb⟩ : ∃ b, b = 2 ^ (7 - k) := ⟨_, rfl⟩
    have e2 : 2 ^ (8 - k) = 2 * b := by rw [hb, show 8 - k = (7 - k) + 1 from by omega, Nat.pow_succ]; omega
    have hbp : 0 < b := by rw [hb]; exact Nat.two_pow_pos _
    have hb128 : b <= 128 := by rw [hb]; exact Nat.pow_le_pow_right (n := 2) (by omega) (show 7 - k <= 7 by omega)
    have hdiv : (256 : Nat) % (2 * b) = 0 := by
     rw [<- e2, show (256 : Nat) = 2 ^ k * 2 ^ (8 - k) from by rw [<- Nat.pow_add, show k + (8 - k) = 8 from by omega]]; exact Nat.mul_mod_left _ _
    have e3 : 2 ^ (8 - k) / 2 = b := by omega
    have enext : b / 2 = 2 ^ (8 - (k + 1)) / 2 := by rw [hb, show 8 - (k + 1) = 7 - k from by omega]
    have hmid := Mid.start (e2 ▸ hfl)
    have hdoes : Crc.steps (k + 1) 1 < 4294967296 := Crc.steps_lt _ _ (by decide)
    have hdk : Crc.steps k 1 < 4294967296 := Crc.steps_lt _ _ (by decide)
    have esucc : Crc.step (Crc.steps k 1) = Crc.steps (k + 1) 1 := (Crc.steps_succ k 1).symm
    have htab : ∀ a, a % (2 * b) = 0 -> Crc.steps 8 (a + b) = Crc.steps 8 a ^^^ Crc.steps (k + 1) 1 := by
     intro a ha
     obtain ⟨q, hq⟩ : ∃ q, a = q * (2 * b) := ⟨a / (2 * b), by have := Nat.div_add_mod a (2 * b); rw [Nat.mul_comm]; omega⟩
     rw [hq, hb, <- hb, <- e2, hb]
     exact Crc.table_next q k h8
    rw [e3]
    have HB := Hi hb
    have HE := Hi enext
    have HS := Hi esucc
    have HM := Hi hmid
    have HH := Hi hh
    have HD := Hi hdiv
    have HE2 := Hi e2
    have HT := Hi htab
    clear hb e2 e3 enext esucc hmid hh hdiv htab hfl
    go_wp2_with (go_at_call 173; refine (zow _ _ hdk).mono ?_; rintro e w' ⟨rfl, rfl⟩)
    rw [HS.out]
    obtain ⟨wo, hwo⟩ : ∃ wo : World, wo = wr := ⟨_, rfl⟩
    subst hwo
    go_loopw [4] (fun x wi => ∃ a : Nat, x = .int .i64 a /\ a <= 256 /\ Hid (a % (2 * b) = 0) /\ But p w wi /\ ∃ ds, Hid (wi.heap[p]? = some (.cells ds 234 (0, 0))) /\ Mid ds cs0 b a) (fun x _ => 256 - (intOf x).toNat)
    case atStart => exact ⟨0, rfl, by omega, Nat.zero_mod _, hbut, cs, HH, HM.out⟩
    case round =>
     obtain ⟨a, rfl, ha, ham, hbi, ds, hdh, hmi⟩ := hrel
     clear HH HM hbut
     by_cases hlt : a < 256
     . have hab : a + 2 * b <= 256 := by
        have h1 := ham.out
        have h2 := HD.out
        obtain ⟨q, hq⟩ : ∃ q, a = 2 * b * q := ⟨a / (2 * b), by have := Nat.div_add_mod a (2 * b); omega⟩
        obtain ⟨r, hr⟩ : ∃ r, 256 = 2 * b * r := ⟨256 / (2 * b), by have := Nat.div_add_mod 256 (2 * b); omega⟩
        have hqr : q < r := by
         rcases Nat.lt_or_ge q r with h | h
         . exact h
         . exfalso; have := Nat.mul_le_mul_left (2 * b) h; omega
        have := Nat.mul_le_mul_left (2 * b) (Nat.succ_le_of_lt hqr)
        rw [Nat.mul_succ] at this
        omega
       obtain ⟨x, hx1, hx2, hx3, _⟩ := hmi.all a hlt
       obtain ⟨y, hy1, hy2, _, _⟩ := hmi.all (a + b) (by omega)
       have hxa : Hid (x = Crc.steps 8 a) := hx3 ham.out
       have c1 : wr.drew.cell? ⟨p, 3 + a, none⟩ = some (.int .u32 (x : Int)) := by rw [World.cell?_drew, zaa hdh.out]; exact hx1
       have c2 : wr.drew.cell? ⟨p, 3 + (a + b), none⟩ = some (.int .u32 (y : Int)) := by rw [World.cell?_drew, zaa hdh.out]; exact hy1
       have z2 : wr.drew.frozen? ⟨p, 3 + (a + b), none⟩ = false := by rw [World.frozen?_drew, zac hdh.out]
       have hxor : bits .xor .u32 (x : Int) ((Crc.steps (k + 1) 1 : Nat) : Int) = ((x ^^^ Crc.steps (k + 1) 1 : Nat) : Int) := u32_xor_nat _ _ hx2 hdoes
       clear hx1 hy1 hx3
       go_wp2
       go_region
       all_goals go_wp2
       go_roundw
       case rel =>
        refine ⟨a + 2 * b, by go_num, hab, ?_, But.drew p (hbi.setCell _ _ _), ds.setIfInBounds (3 + (a + b)) (.int .u32 ((x ^^^ Crc.steps (k + 1) 1 : Nat) : Int)), ?_, ?_⟩
        . exact (Nat.add_mod_right _ _).trans ham.out
        . exact heap_setCell hdh.out (3 + (a + b)) _
        . rw [hxa.out, <- HT.out a ham.out]
          exact hmi.next hbp ham.out hab (by rw [HT.out a ham.out]; exact Crc.xor_lt _ _ (Crc.steps_lt _ _ (by omega)) hdoes)
       case measure => simp [intOf]; omega
     . have hfin := hmi.finish (by omega)
       go_wp2
       go_roundw
       case rel =>
        refine ⟨k + 1, by omega, rfl, by rw [<- HE.out]; go_num, hbi, ds, hdh.out, ?_⟩
        rw [show 8 - (k + 1) = 7 - k from by omega, <- HB.out]; exact hfin
       case measure => simp [intOf]; omega
  . obtain rfl : k = 8 := by omega
    go_wp2
    go_end0
    exact ⟨rfl, hbut, cs, hh, hfl⟩
end Go.Proofs.YtnoeconcpgdjlaaGreat
