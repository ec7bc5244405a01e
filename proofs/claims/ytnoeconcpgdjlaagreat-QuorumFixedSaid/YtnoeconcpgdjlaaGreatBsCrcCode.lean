import Derived.Test.YtnoeconcpgdjlaaGreatBsLib
import Derived.Test.YtnoeconcpgdjlaaGreatBsOnce
set_option linter.unusedSimpArgs false
set_option linter.unusedVariables false
namespace Go.Proofs.YtnoeconcpgdjlaaGreat
set_option maxRecDepth 100000
open Go.RowKit
theorem zi1 {a b : Int} (h : a = b) : Ending.returned (.int .u32 a) = .returned (.int .u32 b) := by rw [h]
theorem ze5 (d : Nat) (f : Nat -> Nat) (c : Int) : ∀ x ∈ zax d f c, ∃ k n, x = .int k n /\ k ≠ .u8 := by
 intro x hx
 unfold zax at hx
 simp only [List.mem_append, List.mem_map, List.mem_cons, List.not_mem_nil, or_false] at hx
 rcases hx with ((rfl | rfl | rfl) | ⟨i, _, rfl⟩) | rfl <;> exact ⟨_, _, rfl, by simp⟩
theorem Sl.but {w w' : World} {p d : Nat} {c : Int} {v : Value} {xs : List Value} (h : Sl w v xs) (hx : ∀ x ∈ xs, ∀ k n, x = .int k n -> k = .u8) (ht : Tab w p d c) (hb : But p w w') : Sl w' v xs := by
 obtain ⟨a, cap, rfl, h1, h2, h4, h3⟩ := h
 refine ⟨a, cap, rfl, h1, h2, h4, fun i hi => ?_⟩
 obtain ⟨b, off, e, hc⟩ := h3 i hi
 refine ⟨b, off, e, ?_⟩
 have hne : b ≠ p := by
  rintro rfl
  rw [ht.cell] at hc
  obtain ⟨k, n, e, hk⟩ := ze5 _ _ _ _ (List.mem_of_getElem? hc)
  exact hk (hx _ (List.getElem_mem hi) k n e)
 have hlt := World.block_lt_of_cell? w _ hc
 rw [World.cell?_of_block (w := w) (hb.block b hlt hne)]
 exact hc
theorem Bytes.but {w w' : World} {p d : Nat} {c : Int} {v : Value} {l : List UInt8} (h : Bytes w v l) (ht : Tab w p d c) (hb : But p w w') : Bytes w' v l :=
 Sl.but h (fun x hx k n e => by
  obtain ⟨y, _, rfl⟩ := List.mem_map.1 hx
  injection e with e1 _
  exact e1.symm) ht hb
theorem Rows.but {w w' : World} {p d : Nat} {c : Int} {v : Value} {ls : List (List UInt8)} (h : Rows w v ls) (ht : Tab w p d c) (hb : But p w w') : Rows w' v ls := by
 obtain ⟨xs, h1, h2, h3⟩ := h
 refine ⟨xs, h1.but (fun x hx k n e => ?_) ht hb, h2, fun i h h' => (h3 i h h').but ht hb⟩
 obtain ⟨i, hi, rfl⟩ := List.getElem_of_mem hx
 obtain ⟨a, m, c, e'⟩ := (h3 i hi (by omega)).isSlice
 rw [e'] at e
 cases e
theorem zjs (w : World) : (zeroValue 234).run Tryz.prog w = .ok (.agg (zax 0 (fun i => if 0 = 1 then Crc.steps 8 i else 0) 0).toArray) w := by kernel_rfl
theorem zp8 (w : World) : (Instr.box 234 (.agg (zax 0 (fun i => if 0 = 1 then Crc.steps 8 i else 0) 0).toArray)).run Tryz.prog w = .ok (.pointer (some ⟨w.heap.size, 0, none⟩)) (w.alloc (.cells (zax 0 (fun i => if 0 = 1 then Crc.steps 8 i else 0) 0).toArray 234)) := by kernel_rfl
def zmr (w : World) (e : Ending) (w' : World) : Prop := e = .returned (.pointer (some ⟨w.heap.size, 0, none⟩)) /\ Tab w' w.heap.size 0 0 /\ Ext w w'
set_option maxHeartbeats 400000 in
theorem zhd (w : World) : Calls Tryz.prog 137 #[] w (zmr w) := by
 have h1 := zjs
 have h2 := zp8
 generalize hT : (zax 0 (fun i => if 0 = 1 then Crc.steps 8 i else 0) 0).toArray = T at *
 have HT := Hi hT
 clear hT
 go_enter Tryz.func137, Tryz.ntmps137
 go_wp2
 go_ret
 refine ⟨rfl, ?_, Ext.alloc _ _⟩
 unfold Tab
 rw [HT.out]
 exact heap_alloc_new w _
set_option maxRecDepth 100000 in
set_option maxHeartbeats 1000000 in
theorem zsi (p d : Nat) (c : Int) (s : Nat) (v : Value) (l : List UInt8) (w : World) (ht : Tab w p d c) (hd : d = 0 \/ d = 1) (hs : s < 4294967296) (hv : Bytes w v l) :
 Calls Tryz.prog 167 #[.pointer (some ⟨p, 0, none⟩), .int .u32 (s : Int), v] w fun e w' => e = .returned (.int .u32 (Crc.more s l : Nat)) /\ But p w w' /\ Tab w' p 1 c := by
 have hmf : ∀ (fn : Fn) (first cap : Array Value) (w : World), (Instr.makeFunc fn first cap).run Tryz.prog w = .ok (.func fn first cap) w := fun _ _ _ _ => rfl
 have hdo : Calls Tryz.prog 169 #[.pointer (some ⟨p, 0, none⟩), .func (.func 170) #[.pointer (some ⟨p, 0, none⟩)] #[]] w fun e w' => e = .returned (.tuple #[]) /\ But p w w' /\ Tab w' p 1 c := by
  rcases hd with rfl | rfl
  . exact zqx p c w ht
  . exact (zsq p c _ w ht).mono fun e w' ⟨he, hw⟩ => by subst hw; exact ⟨he, But.refl _ _, ht⟩
 have HD := Hi hdo
 clear hdo hd
 have h0 : 4294967295 - s < 4294967296 := by omega
 have hnot : ∀ n : Nat, n < 4294967296 -> bits .xor .u32 IntKind.u32.max (n : Int) = ((4294967295 - n : Nat) : Int) := fun n hn => by
  rw [<- Crc.all_xor n hn]; exact u32_xor_nat 4294967295 n (by decide) hn
 have HV := Hi hv
 have HT := Hi ht
 obtain ⟨a, cap, rfl, hcap, hmax, _, hc⟩ := hv.open
 unfold maxLen at hmax
 have HC := Hi hc
 clear hc hv ht
 have hn1 := hnot s hs
 have HN := Hi hnot
 clear hnot
 go_enter Tryz.func167, Tryz.ntmps167
 go_wp2_with (go_at_call 169; refine HD.out.mono ?_; rintro e w1 ⟨rfl, hb1, ht1⟩)
 go_loop [1, 8, 19] (fun x _ i => ∃ k m : Nat, k <= l.length /\ m < 4294967296 /\ i = .int .i64 k /\ x = .int .u32 m /\ Hid (m = Crc.run (4294967295 - s) (l.take k))) (fun _ _ i => l.length - (intOf i).toNat)
 case atStart => exact ⟨0, 4294967295 - s, by omega, h0, rfl, rfl, rfl⟩
 case round =>
  obtain ⟨k, m, hk, hm, rfl, rfl, hr⟩ := hrel
  clear hn1
  by_cases hlt : k < l.length
  . have hv1 := HV.out.but HT.out hb1
    obtain ⟨a', cap', e', _, _, _, hc1⟩ := hv1.open
    obtain ⟨b, off, rfl, hcell⟩ := hc1 k hlt
    injection e' with e1 e2 e3
    subst e1
    have hcl := (l[k]).toNat_lt
    have hx : (m % 256) ^^^ (l[k]).toNat < 256 := Nat.xor_lt_two_pow (n := 8) (Nat.mod_lt _ (by decide)) hcl
    have hmm : ((m : Int) % 256) = ((m % 256 : Nat) : Int) := by omega
    have hb8 : bits .xor .u8 ((m : Int) % 256) ((l[k]).toNat : Int) = (((m % 256) ^^^ (l[k]).toNat : Nat) : Int) := by rw [hmm]; exact u8_xor_nat _ _ (Nat.mod_lt _ (by decide)) hcl
    have hstep := ht1.step _ hx
    have hdv : ((m : Int) / 256) = ((m / 256 : Nat) : Int) := by omega
    have hb32 : bits .xor .u32 ((m : Int) / 256) ((Crc.steps 8 ((m % 256) ^^^ (l[k]).toNat) : Nat) : Int) = (((m / 256) ^^^ Crc.steps 8 ((m % 256) ^^^ (l[k]).toNat) : Nat) : Int) := by
     rw [hdv]; exact u32_xor_nat _ _ (by omega) (Crc.steps_lt _ _ (by omega))
    have hbt := Crc.byte_table m l[k]
    rw [<- hbt] at hb32
    have hlt' := Crc.byte_lt m l[k] hm
    clear hmm hdv hbt ht1
    go_wp2
    go_round
    case rel => exact ⟨k + 1, Crc.byte m l[k], by omega, hlt', by go_num, rfl, by unfold Hid; rw [zam l k hlt, Crc.run_append, <- hr.out]; rfl⟩
    case measure => simp [intOf]; omega
  . have hn2 := HN.out m hm
    have hs : Hid (m = Crc.run (4294967295 - s) l) := by
     have := hr.out; rw [List.take_of_length_le (by omega)] at this; exact this
    clear hr
    go_wp2
    go_ret
    exact ⟨zi1 (by unfold Crc.more; rw [<- hs.out]), hb1, ht1⟩
def bump (c : Int) : Int := IntKind.i64.wrap (c + 1)
theorem Tab.counted {w : World} {p d : Nat} {c : Int} (h : Tab w p d c) : Tab (w.setCell ⟨p, 259, none⟩ (.int .i64 (bump c))) p d (bump c) := by
 have h1 := heap_setCell h 259 (.int .i64 (bump c))
 have e : ∀ f : Nat -> Nat, (zax d f c).toArray.setIfInBounds 259 (.int .i64 (bump c)) = (zax d f (bump c)).toArray := by
  intro f
  unfold zax
  rw [List.setIfInBounds_toArray, List.set_append_right _ _ (by simp)]
  simp
 rw [e] at h1
 exact h1
set_option maxHeartbeats 400000 in
theorem zob (p d : Nat) (c : Int) (w : World) (h : Tab w p d c) :
 Calls Tryz.prog 166 #[.pointer (some ⟨p, 259, none⟩), .int .i64 1] w fun e w' => e = .returned (.int .i64 (bump c)) /\ But p w w' /\ Tab w' p d (bump c) := by
 have hadd := run_call_add (P := Tryz.prog) Tryz.func168 (by kernel_rfl) (by kernel_rfl) (by kernel_rfl) .i64 (by kernel_rfl) (y := 1) (s := (bump c)) h.count (h.frozen 259) (by simp [go_sem, bump])
 have ht := Hi h.counted
 clear h
 go_enter Tryz.func166, Tryz.ntmps166
 go_wp2
 go_ret
 exact ⟨rfl, (But.refl p w).setCell 259 none _, ht.out⟩
set_option maxRecDepth 100000 in
set_option maxHeartbeats 1000000 in
theorem znm (p d : Nat) (c : Int) (v : Value) (ls : List (List UInt8)) (w : World) (ht : Tab w p d c) (hd : d = 0 \/ d = 1) (hv : Rows w v ls) :
 Calls Tryz.prog 158 #[.pointer (some ⟨p, 0, none⟩), v] w fun e w' => e = .returned (.int .u32 (Crc.sum ls.flatten : Nat)) /\ But p w w' /\ ∃ d', (d' = 0 \/ d' = 1) /\ Tab w' p d' (bump c) := by
 have HV := Hi hv
 obtain ⟨a, cap, rfl, hcap, hmax, hrow⟩ := hv.open
 unfold maxLen at hmax
 clear hrow hv
 go_enter Tryz.func158, Tryz.ntmps158
 go_wp2_with (first | (go_at_call 166; refine (zob p d c _ ht).mono ?_; rintro e w1 ⟨rfl, hb1, ht1⟩))
 have HV1 := Hi (HV.out.but ht hb1)
 go_loopw [5, 7, 14] (fun x _ i wr => ∃ k m d' : Nat, k <= ls.length /\ m < 4294967296 /\ i = .int .i64 k /\ x = .int .u32 m /\ Hid (m = Crc.sum (ls.take k).flatten) /\ But p w1 wr /\ Hid (d' = 0 \/ d' = 1) /\ Tab wr p d' (bump c)) (fun _ _ i _ => ls.length - (intOf i).toNat)
 case atStart => exact ⟨0, 0, d, by omega, by omega, rfl, rfl, by unfold Hid; rw [List.take_zero, List.flatten_nil, Crc.sum_nil], But.refl _ _, hd, ht1⟩
 case round =>
  obtain ⟨k, m, d', hk, hm, rfl, rfl, hr, hbr, hd', htr⟩ := hrel
  by_cases hlt : k < ls.length
  . have hvr := HV1.out.but ht1 hbr
    obtain ⟨a', cap', e', _, _, hrows⟩ := hvr.open
    obtain ⟨b, off, x, rfl, hcell, hx⟩ := hrows k hlt
    injection e' with e1 e2 e3
    subst e1
    have hn := Crc.more_lt m ls[k]
    clear hrows hvr e2 e3
    go_wp2_with (go_at_call 167; refine (zsi p d' (bump c) m x ls[k] _ htr hd'.out hm hx).mono ?_; rintro e w2 ⟨rfl, hb2, ht2⟩)
    go_roundw
    case rel => exact ⟨k + 1, Crc.more m ls[k], 1, by omega, hn, by go_num, rfl, by unfold Hid; rw [zam ls k hlt, List.flatten_append, hr.out]; simp [Crc.sum, Crc.more_more], hbr.trans hb2, Or.inr rfl, ht2⟩
    case measure => simp [intOf]; omega
  . have hs : Hid (m = Crc.sum ls.flatten) := by
     have := hr.out; rw [List.take_of_length_le (by omega)] at this; exact this
    clear hr
    go_wp2
    go_ret
    exact ⟨zi1 (by rw [hs.out]), hb1.trans hbr, d', hd'.out, htr⟩
def Low4 (n : Nat) (w : World) (e : Ending) (w' : World) : Prop :=
 ∃ b0 b1 b2 b3 : UInt8, e = .returned (.agg #[.int .u8 (b0.toNat : Int), .int .u8 (b1.toNat : Int), .int .u8 (b2.toNat : Int), .int .u8 (b3.toNat : Int)]) /\ Hid (Crc.low n = [b0, b1, b2, b3]) /\ Ext w w'
set_option maxHeartbeats 400000 in
theorem zpd (n : Nat) (w : World) (h : n < 4294967296) :
 Calls Tryz.prog 157 #[.int .u32 (n : Int)] w (Low4 n w) := by
 go_enter Tryz.func157, Tryz.ntmps157
 go_wp2
 have e1 : ((UInt8.ofNat n).toNat : Int) = (n : Int) % 256 := zel n
 have e2 : ((UInt8.ofNat (n / 256)).toNat : Int) = (n : Int) / 256 % 256 := by rw [zel]; omega
 have e3 : ((UInt8.ofNat (n / 65536)).toNat : Int) = (n : Int) / 65536 % 256 := by rw [zel]; omega
 have e4 : ((UInt8.ofNat (n / 16777216)).toNat : Int) = (n : Int) / 16777216 := by rw [zel]; omega
 refine bodyPost_ret (v := .agg #[.int .u8 ((n : Int) % 256), .int .u8 ((n : Int) / 256 % 256), .int .u8 ((n : Int) / 65536 % 256), .int .u8 ((n : Int) / 16777216)]) (by simp [results, Tryz.results157, go_sem]) rfl ⟨_, _, _, _, ?_, rfl, Ext.alloc _ _⟩
 rw [e1, e2, e3, e4]
end Go.Proofs.YtnoeconcpgdjlaaGreat
