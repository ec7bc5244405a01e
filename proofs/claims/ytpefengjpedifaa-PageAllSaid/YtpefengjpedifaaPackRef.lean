/-
  Layer 2, the document's own answers: each call's contract.
-/
import Derived.Test.YtpefengjpedifaaPackTake
import Derived.Test.YtpefengjpedifaaRegion
namespace Go.Proofs.Ytpefengjpedifaa
set_option linter.unusedSimpArgs false
set_option linter.unusedVariables false
open Go.RowKit

theorem run_one8 (w : World) (x : Int) : (Instr.buildSlice 22 1 #[(0, .int .u8 x)]).run Try.prog w = .ok (.slice (some ⟨w.heap.size, 0, none⟩) 1 1) (w.alloc (.cells #[.int .u8 x] 5)) := by kernel_rfl
theorem mk_append (x y : List UInt8) : (ByteArray.mk x.toArray ++ ByteArray.mk y.toArray) = ByteArray.mk (x ++ y).toArray := ByteArray.mk_append_mk x y
/-- A text, by value. -/
def txt (l : List UInt8) : Value := .string ⟨l.toArray⟩

set_option maxRecDepth 100000 in
set_option maxHeartbeats 2000000 in
theorem numRef_nat (n : Nat) : ∀ (w : World), n ≤ 4611686018427387904 →
    Calls Try.prog 94 #[.int .i64 (n : Int)] w fun e w' => e = .returned (.string ⟨(Pack.num n).toArray⟩) ∧ Ext w w' := by
  induction n using Nat.strongRecOn with
  | _ n ih =>
    intro w hn
    have hst := fun (w' : World) (v : Value) (l : List UInt8) (h : Bytes w' v l) => run_str (P := Try.prog) 22 9 5 Try.underlying22 Try.underlying5 Try.underlying9 h
    by_cases h128 : n < 128
    · have hs : (n : Int) < 128 := by omega
      have h1 := hst _ _ _ (Own.one_lt (w := w) (n := n) (by omega))
      have e : Pack.num n = [UInt8.ofNat n] := Pack.num_low h128
      rw [← e] at h1
      clear e hst ih
      go_enter Try.func94, Try.ntmps94
      go_wp2
      go_ret
      exact ⟨rfl, Ext.alloc _ _⟩
    · have hs : ¬ (n : Int) < 128 := by omega
      have ih1 := fun w' => ih (n / 128) (by omega) w' (by omega)
      have e : Pack.num n = [UInt8.ofNat (128 + n % 128)] ++ Pack.num (n / 128) := Pack.num_high h128
      have hone8 := fun w' => Own.one_lt (w := w') (n := 128 + n % 128) (by omega)
      obtain ⟨X, hX⟩ : ∃ X : List UInt8, X = [UInt8.ofNat (128 + n % 128)] := ⟨_, rfl⟩
      have hXl : X.length = 1 := by rw [hX]; rfl
      have hnl := Pack.num_nine (n := n / 128) (by omega)
      rw [← hX] at e hone8
      clear hX
      have hmod : ((n : Int)).tmod 128 = ((n % 128 : Nat) : Int) := (Int.ofNat_tmod n 128).symm
      have hdiv : ((n : Int)).tdiv 128 = ((n / 128 : Nat) : Int) := (Int.ofNat_tdiv n 128).symm
      have hadd : (128 : Int) + ((n % 128 : Nat) : Int) = ((128 + n % 128 : Nat) : Int) := by omega
      go_enter Try.func94, Try.ntmps94
      go_wp2_with fail
      refine wp_region_facts (by kernel_rfl) Ext (fun iop v w => match iop with
          | 0 => v = .int .i64 (n : Int)
          | 1 => v = .int .i64 ((n % 128 : Nat) : Int)
          | 2 => v = .int .i64 ((128 + n % 128 : Nat) : Int)
          | 3 => v = .int .u8 ((128 + n % 128 : Nat) : Int)
          | 4 => Bytes w v X
          | 5 => v = .string ⟨X.toArray⟩
          | 6 => v = .int .i64 (n : Int)
          | 7 => v = .int .i64 ((n / 128 : Nat) : Int)
          | 8 => v = .string ⟨(Pack.num (n / 128)).toArray⟩
          | 9 => v = .string ⟨(Pack.num n).toArray⟩
          | _ => v = .string ⟨(Pack.num n).toArray⟩
          ) (by kernel_rfl) (fun _ _ _ h k => Ext.trans h k) (fun a => Ext.refl a) (Ext.drew _) ?_ ?_ ?_
      · intro iop v wa wb hF hL
        iterate 4 (rcases iop with _ | iop; exact hF)
        rcases iop with _ | iop; (first | exact hF | exact Bytes.below hF hL | exact Sl.below hF hL)
        iterate 5 (rcases iop with _ | iop; exact hF)
        exact hF
      · refine Obls.cons ?_ (Obls.cons ?_ (Obls.cons ?_ (Obls.cons ?_ (Obls.cons ?_ (Obls.cons ?_ (Obls.cons ?_ (Obls.cons ?_ (Obls.cons ?_ (Obls.cons ?_ (Obls.cons ?_ (Obls.nil)))))))))))
        · intro ev wy hp hl hk hd
          have e0 : ev (.tmp 0) = .int .i64 (n : Int) := hk 0 (by decide)
          clear hk hd
          exact Yield.mv rfl ⟨Ext.refl _, e0⟩
        · intro ev wy hp hl hk hd
          have e15 : ev (.tmp 15) = .int .i64 (n : Int) := hk 15 (by decide)
          clear hk hd
          exact Yield.op (w' := wy) (by simp [execOp, go_sem, hp.const, e15]; rw [hmod]; omega) ⟨Ext.refl _, rfl⟩
        · intro ev wy hp hl hk hd
          have e16 : ev (.tmp 16) = .int .i64 ((n % 128 : Nat) : Int) := hk 16 (by decide)
          clear hk hd
          exact Yield.op (w' := wy) (by simp [execOp, go_sem, hp.const, e16]; rw [IntWalk.i64_in _ (by omega)]) ⟨Ext.refl _, rfl⟩
        · intro ev wy hp hl hk hd
          have e17 : ev (.tmp 17) = .int .i64 ((128 + n % 128 : Nat) : Int) := hk 17 (by decide)
          clear hk hd
          exact Yield.op (w' := wy) (by simp [execOp, go_sem, hp.const, e17]; rw [IntKind.wrap_u8']; omega) ⟨Ext.refl _, rfl⟩
        · intro ev wy hp hl hk hd
          have e18 : ev (.tmp 18) = .int .u8 ((128 + n % 128 : Nat) : Int) := hk 18 (by decide)
          clear hk hd
          exact Yield.op (w' := wy.alloc (.cells #[.int .u8 ((128 + n % 128 : Nat) : Int)] 5)) (by simp only [execOp, List.map_toArray, List.map_cons, List.map_nil, e18, Sem.run_bind, run_one8]; rfl) ⟨Ext.alloc _ _, hone8 _⟩
        · intro ev wy hp hl hk hd
          have f19 : (fun (v : Value) (w : World) => Bytes w v X) (ev (.tmp 19)) wy := hk 19 (by decide)
          generalize hx19 : ev (.tmp 19) = x19 at *
          clear hk hd
          exact Yield.conv rfl hx19 (run_str _ _ 5 Try.underlying22 Try.underlying5 Try.underlying9 (f19)) ⟨Ext.refl _, rfl⟩
        · intro ev wy hp hl hk hd
          have e0 : ev (.tmp 0) = .int .i64 (n : Int) := hk 0 (by decide)
          clear hk hd
          exact Yield.mv rfl ⟨Ext.refl _, e0⟩
        · intro ev wy hp hl hk hd
          have e21 : ev (.tmp 21) = .int .i64 (n : Int) := hk 21 (by decide)
          clear hk hd
          exact Yield.op (w' := wy) (by simp [execOp, go_sem, hp.const, e21]; rw [IntWalk.i64_in _ (by omega)]) ⟨Ext.refl _, rfl⟩
        · intro ev wy hp hl hk hd
          have e22 : ev (.tmp 22) = .int .i64 ((n / 128 : Nat) : Int) := hk 22 (by decide)
          clear hk hd
          refine Yield.call rfl hp Try.func94 rfl (by kernel_rfl) ?_
          simp only [List.map_toArray, List.map_cons, List.map_nil, e22]
          exact (ih1 _).mono fun _ _ ⟨he, hb⟩ => ⟨_, he, hb, by first | rfl | simp⟩
        · intro ev wy hp hl hk hd
          have e20 : ev (.tmp 20) = .string ⟨X.toArray⟩ := hk 20 (by decide)
          have e23 : ev (.tmp 23) = .string ⟨(Pack.num (n / 128)).toArray⟩ := hk 23 (by decide)
          clear hk hd
          exact Yield.op (w' := wy) (by simp [execOp, go_sem, e20, e23]; rw [if_neg (by omega), mk_append, e]) ⟨Ext.refl _, rfl⟩
        · intro ev wy hp hl hk hd
          have e24 : ev (.tmp 24) = .string ⟨(Pack.num n).toArray⟩ := hk 24 (by decide)
          clear hk hd
          exact Yield.as rfl ⟨Ext.refl _, e24⟩
      · intro vals wz hz hv
        have g15 : vals 0 = .int .i64 (n : Int) := hv 0 (by decide)
        have g16 : vals 1 = .int .i64 ((n % 128 : Nat) : Int) := hv 1 (by decide)
        have g17 : vals 2 = .int .i64 ((128 + n % 128 : Nat) : Int) := hv 2 (by decide)
        have g18 : vals 3 = .int .u8 ((128 + n % 128 : Nat) : Int) := hv 3 (by decide)
        have g19 : (fun (v : Value) (w : World) => Bytes w v X) (vals 4) wz := hv 4 (by decide)
        have g20 : vals 5 = .string ⟨X.toArray⟩ := hv 5 (by decide)
        have g21 : vals 6 = .int .i64 (n : Int) := hv 6 (by decide)
        have g22 : vals 7 = .int .i64 ((n / 128 : Nat) : Int) := hv 7 (by decide)
        have g23 : vals 8 = .string ⟨(Pack.num (n / 128)).toArray⟩ := hv 8 (by decide)
        have g24 : vals 9 = .string ⟨(Pack.num n).toArray⟩ := hv 9 (by decide)
        have g2 : vals 10 = .string ⟨(Pack.num n).toArray⟩ := hv 10 (by decide)
        clear hv
        simp only [putAll, Act.put, List.setIfInBounds_toArray, List.set_cons_zero, List.set_cons_succ, g15, g16, g17, g18, g20, g21, g22, g23, g24, g2]
        clear g15
        clear g16
        clear g17
        clear g18
        generalize vals 4 = v19 at *
        clear g20
        clear g21
        clear g22
        clear g23
        clear g24
        clear g2
        go_wp2_with fail
        go_ret
        exact ⟨rfl, hz⟩

theorem numRef_any (n : Int) (w : World) : Calls Try.prog 94 #[.int .i64 n] w fun e w' => e = .returned (.string ⟨(oneNum n).toArray⟩) ∧ Ext w w' := by
  unfold oneNum
  by_cases h0 : n < 0
  · have e : okNum n = false := by unfold okNum; simp; omega
    rw [e]
    clear e
    go_enter Try.func94, Try.ntmps94
    go_wp2
    go_ret
    exact ⟨rfl, Ext.refl _⟩
  · by_cases h1 : (4611686018427387904 : Int) < n
    · have e : okNum n = false := by unfold okNum; simp; omega
      rw [e]
      clear e
      go_enter Try.func94, Try.ntmps94
      go_wp2
      go_ret
      exact ⟨rfl, Ext.refl _⟩
    · have e : okNum n = true := by unfold okNum; simp; omega
      rw [e]
      obtain ⟨m, rfl⟩ : ∃ m : Nat, n = (m : Int) := ⟨n.toNat, by omega⟩
      exact numRef_nat m w (by omega)


set_option maxRecDepth 100000 in
set_option maxHeartbeats 1000000 in
theorem textRef_any (l : List UInt8) (w : World) (hl : l.length ≤ 4611686018427387904) : Calls Try.prog 78 #[.string ⟨l.toArray⟩] w fun e w' => e = .returned (.string ⟨(Pack.num l.length ++ l).toArray⟩) ∧ Ext w w' := by
  have h9 := Pack.num_nine hl
  have hnum := fun w' => numRef_nat l.length w' hl
  have hadd := mk_append (Pack.num l.length) l
  have hs1 := str_len (Pack.num l.length)
  have hs2 := str_len l
  go_enter Try.func78, Try.ntmps78
  go_wp2_with (go_at_call 94; refine (hnum _).mono ?_; rintro e w1 ⟨rfl, hb1⟩)
  go_ret
  exact ⟨rfl, hb1⟩

/-- A reader of the document's, by value. -/
def refVal (l : List UInt8) (e : Int) : Value := .agg #[.string ⟨l.toArray⟩, .int .i64 e]

set_option maxRecDepth 100000 in
set_option maxHeartbeats 1000000 in
theorem failed_any (l : List UInt8) (x : Int) (w : World) : Calls Try.prog 92 #[refVal l 0, .int .i64 x] w fun e w' => e = .returned (refVal l x) ∧ Ext w w' := by
  unfold refVal
  go_enter Try.func92, Try.ntmps92
  go_wp2
  exact bodyPost_ret (v := .agg #[.string ⟨l.toArray⟩, .int .i64 x]) (by simp [results, Try.results92, go_sem]) rfl ⟨rfl, (Ext.alloc _ _).trans (Ext.alloc _ _)⟩

/-- The place of the last byte of a number. -/
def lastOf (l : List UInt8) : Int := if Pack.lead l < l.length ∧ Pack.lead l < 9 then (Pack.lead l : Nat) else -1

set_option maxRecDepth 100000 in
set_option maxHeartbeats 1000000 in
theorem last_any (l : List UInt8) (w : World) (hl : l.length ≤ 9223372036854775807) : Calls Try.prog 103 #[.string ⟨l.toArray⟩] w fun e w' => e = .returned (.int .i64 (lastOf l)) ∧ w = w' := by
  have hs := str_len l
  go_enter Try.func103, Try.ntmps103
  go_wp2
  go_loop [3] (fun i => ∃ k : Nat, k ≤ l.length ∧ k ≤ 9 ∧ i = .int .i64 k ∧ Hid (k ≤ Pack.lead l)) (fun i => l.length - (intOf i).toNat)
  case atStart => exact ⟨0, by omega, by omega, rfl, Nat.zero_le _⟩
  case round =>
    obtain ⟨k, hk, hk9, rfl, hlead⟩ := hrel
    by_cases hlt : k < l.length
    · have hlt1 : (k : Int) < (l.length : Int) := by omega
      by_cases h9 : k < 9
      · have h91 : (k : Int) < 9 := by omega
        have hidx : (ByteArray.mk l.toArray)[k]'(by rw [hs]; exact hlt) = l[k] := rfl
        by_cases hx : l[k].toNat < 128
        · have hx1 : (l[k].toNat : Int) < 128 := by omega
          have hlead' : Pack.lead l = k := by
            have h1 := hlead.out
            have h2 : ¬ k < Pack.lead l := fun h => Pack.lead_big l k hlt h hx
            omega
          have hl1 : lastOf l = (k : Int) := by unfold lastOf; rw [hlead', if_pos ⟨hlt, h9⟩]
          have HL := Lib.hid hl1
          clear hl1 hlead'
          go_wp2
          go_ret
          exact ⟨by rw [HL.out]; rfl, rfl⟩
        · have hx1 : ¬ (l[k].toNat : Int) < 128 := by omega
          have hlead' : k + 1 ≤ Pack.lead l := by
            rcases Nat.lt_or_ge k (Pack.lead l) with h | h
            · exact h
            · have h1 := hlead.out
              have e : Pack.lead l = k := by omega
              have := Pack.lead_small l (by omega)
              simp only [e] at this
              exact absurd this hx
          go_wp2
          go_round
          case rel => exact ⟨k + 1, by omega, by omega, by go_num, hlead'⟩
          case measure => simp [intOf]; omega
      · have h91 : ¬ (k : Int) < 9 := by omega
        have hl1 : lastOf l = -1 := by
          have h1 := hlead.out
          unfold lastOf; rw [if_neg (by omega)]
        have HL := Lib.hid hl1
        clear hl1
        go_wp2
        go_ret
        exact ⟨by rw [HL.out]; rfl, rfl⟩
    · have hlt1 : ¬ (k : Int) < (l.length : Int) := by omega
      have hl1 : lastOf l = -1 := by
        have h1 := hlead.out
        unfold lastOf; rw [if_neg (by omega)]
      have HL := Lib.hid hl1
      clear hl1
      go_wp2
      go_ret
      exact ⟨by rw [HL.out]; rfl, rfl⟩

/-- The two readers are alike. -/
structure Sim (l : List UInt8) (s : Pack.St) : Prop where
  live : s.err = 0 → l = s.left
  dead : s.err ≠ 0 → s.left = []
theorem sim_num {s : Pack.St} (h : s.err ≠ 0 → s.left = []) (most : Int) : (s.num most).1.err ≠ 0 → (s.num most).1.left = [] ∧ (s.num most).2 = 0 := by
  intro he
  by_cases h0 : s.err = 0
  · unfold Pack.St.num at he ⊢
    split
    · exact ⟨rfl, rfl⟩
    · rename_i h1
      rw [if_neg h1] at he
      split
      · exact ⟨rfl, rfl⟩
      · rename_i h2
        rw [if_neg h2] at he
        split
        · exact ⟨rfl, rfl⟩
        · rename_i h3
          rw [if_neg h3] at he
          exact absurd h0 he
  · have := h h0
    obtain ⟨l, e⟩ := s
    simp only at this h0
    subst this
    rw [Pack.num_dead e most h0]
    exact ⟨rfl, rfl⟩

/-- A number of the document's is just the bytes that were taken, if these are as short as can be, and it is not too great. -/
theorem one_taken (l : List UInt8) (k : Nat) (hk : k < l.length) (hlead : Pack.lead l = k) (most : Int) :
    (oneNum ((Pack.val (l.take (k + 1)) : Nat) : Int) ≠ l.take (k + 1) ∨ most < ((Pack.val (l.take (k + 1)) : Nat) : Int)) ↔ Pack.wrong (l.take (k + 1)) most := by
  subst hlead
  have e := Pack.take_last hk
  have hb := Pack.lead_small l hk
  have hall : ∀ x ∈ l.take (Pack.lead l), ¬ x.toNat < 128 := fun x hx => Pack.mem_lead hk hx
  have hlen : (l.take (Pack.lead l + 1)).length = Pack.lead l + 1 := by rw [List.length_take, Nat.min_eq_left hk]
  have hlast : (l.take (Pack.lead l + 1)).getLast? = some l[Pack.lead l] := by rw [e]; exact List.getLast?_concat
  unfold Pack.wrong
  rw [hlast, hlen, Option.some.injEq]
  have hone : oneNum ((Pack.val (l.take (Pack.lead l + 1)) : Nat) : Int) = if Pack.val (l.take (Pack.lead l + 1)) ≤ 4611686018427387904 then Pack.num (Pack.val (l.take (Pack.lead l + 1))) else [] := by
    unfold oneNum okNum
    by_cases h : Pack.val (l.take (Pack.lead l + 1)) ≤ 4611686018427387904
    · rw [if_pos h, decide_eq_true (by omega)]; simp
    · rw [if_neg h, decide_eq_false (by omega)]; simp
  rw [hone]
  by_cases h62 : Pack.val (l.take (Pack.lead l + 1)) ≤ 4611686018427387904
  · rw [if_pos h62]
    by_cases hz : 2 ≤ Pack.lead l + 1 ∧ l[Pack.lead l] = 0
    · constructor
      · intro _; exact .inl hz
      · intro _
        left
        intro hh
        obtain ⟨l', b', e', _, _, h3⟩ := Pack.num_form (Pack.val (l.take (Pack.lead l + 1)))
        rw [hh, e] at e'
        have hl2 := congrArg List.getLast? e'
        rw [List.getLast?_concat, List.getLast?_concat] at hl2
        injection hl2 with hl2
        have hl3 := congrArg List.length e'
        simp at hl3
        rcases h3 with rfl | h3
        · simp at hl3; omega
        · exact h3 (by rw [← hl2]; exact hz.2)
    · have : Pack.num (Pack.val (l.take (Pack.lead l + 1))) = l.take (Pack.lead l + 1) := by
        conv => lhs; rw [e]
        rw [Pack.num_val _ _ hb hall, ← e]
        by_cases h0 : Pack.lead l = 0
        · left; rw [h0]; rfl
        · right; intro h; exact hz ⟨by omega, h⟩
      rw [this]
      constructor
      · rintro (h | h)
        · exact absurd rfl h
        · exact .inr (.inr h)
      · rintro (h | h | h)
        · exact absurd h hz
        · omega
        · exact .inr h
  · rw [if_neg h62]
    constructor
    · intro _; exact .inr (.inl (by omega))
    · intro _
      left
      intro h
      have := congrArg List.length h
      rw [hlen] at this
      simp at this
end Go.Proofs.Ytpefengjpedifaa
