/-
  Merged: Layer 15, the program: the binary search, and its closures.
-/
import Derived.Test.YtnldbdgchkknpaaBsOrA

namespace Go.Proofs.Ytnldbdgchkknpaa
set_option linter.unusedSimpArgs false
set_option linter.unusedVariables false
set_option maxRecDepth 100000
open Go.RowKit
/- Layer 15, the program: the binary search, and its closures. -/
theorem Yield.callw15 {P : Program} {o : Oper} {ev : Operand → Value} {w : World} {R : Value → World → Prop} {F : FuncId} {x : Operand} {caps : Array Value} {xs : Array Operand} {ats : Array TypeId} {fn : Func} {c : Code} (ho : o.op = .call { callee := .value x, args := xs, argTypes := ats }) (hx : ev x = .func (.func F) #[] caps) (hf : P.funcs[F]? = some fn) (hb : fn.body = some c)
    (hn : (fn.name == "runtime.NumGoroutine") = false) (h : Calls P F (xs.map ev ++ caps) w (fun e w' => ∃ v, e = .returned v ∧ R v w')) : Yield P o ev w R := by
  unfold Yield execOp
  have hr : (do let d ← resolve ev { callee := .value x, args := xs, argTypes := ats } o.type; invoke d.target d.args).run P w = .ok (.enter F (xs.map ev ++ caps)) w := by
    have hn' : ¬ fn.name = "runtime.NumGoroutine" := by simpa using hn
    simp [resolve, hx, Deferred.ofValue, invoke, callFunc, hf, hn', hb]
  simp only [ho]
  rw [hr]
  exact h.mono fun e w' he => by obtain ⟨v, rfl, hv⟩ := he; exact hv

theorem atFn15_any (v : Value) (ns : List Int) (pos : Int) (q : Nat) (w : World) (hv : Ints w v ns) (hq : w.cell? ⟨q, 0, none⟩ = some (.int .i64 pos)) :
    Calls Try.prog 29 #[v, .pointer (some ⟨q, 0, none⟩)] w fun e w' => e = .returned (.bool (decide (pos < Vec.total ns))) ∧ Ext w w' := by
  obtain ⟨a, n, c, rfl⟩ := hv.isSlice
  have HV := Lib.hid hv
  have HQ := Lib.hid hq
  have HT := Lib.hid (fun (wy : World) (hy : Ext w wy) => (total_any (.slice a n c) ns wy (hv.below hy)).mono fun e w' q => (⟨q.1, q.2 ▸ Ext.refl wy⟩ : e = Ending.returned (.int .i64 (Vec.total ns)) ∧ Ext wy w'))
  clear hv hq
  obtain ⟨T, hT⟩ : ∃ z, Vec.total ns = z := ⟨_, rfl⟩
  rw [hT] at HT ⊢
  clear hT
  go_enter Try.func29, Try.ntmps29
  go_wp2_with fail
  refine wp_region_facts (by kernel_rfl) Ext (fun iop v w => match iop with
      | 0 => v = .slice a n c
      | 1 => v = .int .i64 T
      | 2 => v = .int .i64 pos
      | 3 => v = .bool (decide (pos < T))
      | _ => v = .bool (decide (pos < T))
      ) (by kernel_rfl) (fun _ _ _ h k => Ext.trans h k) (fun a => Ext.refl a) (Ext.drew _) ?_ ?_ ?_
  · intro iop v wa wb hF hL
    iterate 4 (rcases iop with _ | iop; exact hF)
    exact hF
  · refine Obls.cons ?_ (Obls.cons ?_ (Obls.cons ?_ (Obls.cons ?_ (Obls.cons ?_ (Obls.nil)))))
    · intro ev wy hp hl hk hd
      have e0 : ev _ = .slice a n c := hk 0 (by decide)
      exact Yield.mv rfl ⟨Ext.refl _, e0⟩
    · intro ev wy hp hl hk hd
      have e4 : ev _ = _ := hk 4 (by decide)
      refine Yield.call rfl hp Try.func28 rfl (by kernel_rfl) ?_
      simp only [List.map_toArray, List.map_cons, List.map_nil, e4]
      exact (HT.out wy hl).mono fun _ _ ⟨he, hb⟩ => ⟨_, he, hb, by first | rfl | simp⟩
    · intro ev wy hp hl hk hd
      have e1 : ev _ = .pointer (some ⟨q, 0, none⟩) := hk 1 (by decide)
      exact Yield.load rfl e1 (ldInt (cellExt15 HQ.out hl)) ⟨Ext.refl _, rfl⟩
    · intro ev wy hp hl hk hd
      have e5 : ev _ = _ := hk 5 (by decide)
      have e6 : ev _ = _ := hk 6 (by decide)
      exact Yield.op (v := .bool (decide (pos < T))) (w' := wy) (by simp [execOp, go_sem, e5, e6]) ⟨Ext.refl _, rfl⟩
    · intro ev wy hp hl hk hd
      have e7 : ev _ = _ := hk 7 (by decide)
      exact Yield.as rfl ⟨Ext.refl _, e7⟩
  · intro vals wz hz hv
    have g4 : vals 0 = _ := hv 0 (by decide)
    have g5 : vals 1 = _ := hv 1 (by decide)
    have g6 : vals 2 = _ := hv 2 (by decide)
    have g7 : vals 3 = _ := hv 3 (by decide)
    have g3 : vals 4 = _ := hv 4 (by decide)
    clear hv
    simp only [putAll, Act.put, List.setIfInBounds_toArray, List.set_cons_zero, List.set_cons_succ, g4, g5, g6, g7, g3]
    clear g4 g5 g6 g7 g3
    go_wp2_with fail
    go_ret
    exact ⟨rfl, hz⟩
theorem findFn15_any (v : Value) (ns : List Int) (s : Nat) (hs : s < ns.length) (l : Int) (q : Nat) (w : World) (hv : Ints w v ns) (hq0 : w.cell? ⟨q, 0, none⟩ = some (.int .i64 (s : Int))) (hq1 : w.cell? ⟨q, 1, none⟩ = some (.int .i64 l)) :
    Calls Try.prog 25 #[v, .pointer (some ⟨q, 0, none⟩)] w fun e w' => e = .returned (.bool (decide (l < ns[s]))) ∧ Ext w w' := by
  obtain ⟨a, c, rfl, h1, h2, _, h4⟩ := hv.open
  unfold maxLen at h2
  have HV := Lib.hid hv
  have HQ0 := Lib.hid hq0
  have HQ1 := Lib.hid hq1
  obtain ⟨b, off, rfl, hc⟩ := h4 s hs
  have HC := Lib.hid hc
  obtain ⟨x, hx⟩ : ∃ z, ns[s] = z := ⟨_, rfl⟩
  rw [hx] at HC ⊢
  clear hv hq0 hq1 h4 hc hx
  go_enter Try.func25, Try.ntmps25
  go_wp2_with fail
  refine wp_region_facts (by kernel_rfl) Ext (fun iop v w => match iop with
      | 0 => v = .slice (some ⟨b, off, none⟩) ns.length c
      | 1 => v = .pointer (some ⟨q, 0, none⟩)
      | 2 => v = .int .i64 (s : Int)
      | 3 => v = .pointer (some ⟨b, off + s, none⟩)
      | 4 => v = .int .i64 x
      | 5 => v = .pointer (some ⟨q, 1, none⟩)
      | 6 => v = .int .i64 l
      | 7 => v = .bool (decide (l < x))
      | _ => v = .bool (decide (l < x))
      ) (by kernel_rfl) (fun _ _ _ h k => Ext.trans h k) (fun a => Ext.refl a) (Ext.drew _) ?_ ?_ ?_
  · intro iop v wa wb hF hL
    iterate 8 (rcases iop with _ | iop; exact hF)
    exact hF
  · refine Obls.cons ?_ (Obls.cons ?_ (Obls.cons ?_ (Obls.cons ?_ (Obls.cons ?_ (Obls.cons ?_ (Obls.cons ?_ (Obls.cons ?_ (Obls.cons ?_ (Obls.nil)))))))))
    · intro ev wy hp hl hk hd
      have e0 : ev _ = .slice (some ⟨b, off, none⟩) ns.length c := hk 0 (by decide)
      exact Yield.mv rfl ⟨Ext.refl _, e0⟩
    · intro ev wy hp hl hk hd
      have e1 : ev _ = .pointer (some ⟨q, 0, none⟩) := hk 1 (by decide)
      exact Yield.oq (by simp [execOp, go_sem, e1])
    · intro ev wy hp hl hk hd
      have e5 : ev _ = _ := hk 5 (by decide)
      exact Yield.load rfl e5 (ldInt (cellExt15 HQ0.out hl)) ⟨Ext.refl _, rfl⟩
    · intro ev wy hp hl hk hd
      have e4 : ev _ = _ := hk 4 (by decide)
      have e6 : ev _ = _ := hk 6 (by decide)
      exact Yield.op (v := .pointer (some ⟨b, off + s, none⟩)) (w' := wy) (by simp [execOp, go_sem, e4, e6]; intro hq; omega) ⟨Ext.refl _, rfl⟩
    · intro ev wy hp hl hk hd
      have e7 : ev _ = _ := hk 7 (by decide)
      exact Yield.load rfl e7 (ldInt (cellExt15 HC.out hl)) ⟨Ext.refl _, rfl⟩
    · intro ev wy hp hl hk hd
      have e1 : ev _ = .pointer (some ⟨q, 0, none⟩) := hk 1 (by decide)
      exact Yield.oq (by simp [execOp, go_sem, e1])
    · intro ev wy hp hl hk hd
      have e9 : ev _ = _ := hk 9 (by decide)
      exact Yield.load rfl e9 (ldInt (cellExt15 HQ1.out hl)) ⟨Ext.refl _, rfl⟩
    · intro ev wy hp hl hk hd
      have e8 : ev _ = _ := hk 8 (by decide)
      have e10 : ev _ = _ := hk 10 (by decide)
      exact Yield.op (v := .bool (decide (l < x))) (w' := wy) (by simp [execOp, go_sem, e8, e10]) ⟨Ext.refl _, rfl⟩
    · intro ev wy hp hl hk hd
      have e11 : ev _ = _ := hk 11 (by decide)
      exact Yield.as rfl ⟨Ext.refl _, e11⟩
  · intro vals wz hz hv
    have g4 : vals 0 = _ := hv 0 (by decide)
    have g5 : vals 1 = _ := hv 1 (by decide)
    have g6 : vals 2 = _ := hv 2 (by decide)
    have g7 : vals 3 = _ := hv 3 (by decide)
    have g8 : vals 4 = _ := hv 4 (by decide)
    have g9 : vals 5 = _ := hv 5 (by decide)
    have g10 : vals 6 = _ := hv 6 (by decide)
    have g11 : vals 7 = _ := hv 7 (by decide)
    have g3 : vals 8 = _ := hv 8 (by decide)
    clear hv
    simp only [putAll, Act.put, List.setIfInBounds_toArray, List.set_cons_zero, List.set_cons_succ, g4, g5, g6, g7, g8, g9, g10, g11, g3]
    clear g4 g5 g6 g7 g8 g9 g10 g11 g3
    go_wp2_with fail
    go_ret
    exact ⟨rfl, hz⟩

set_option maxHeartbeats 2000000 in
theorem search15_any (n : Nat) (Q : Nat → Bool) (b3 b2 : Nat) (w : World) (hmono : ∀ i j, i ≤ j → j < n → Q i = true → Q j = true) (hn : n ≤ 4398046511106)
    (HF : Hid (∀ wy, Ext w wy → ∀ k, k < n → Calls Try.prog 35 #[.int .i64 (k : Nat), .pointer (some ⟨b3, 0, none⟩), .pointer (some ⟨b2, 0, none⟩)] wy fun e w' => e = .returned (.bool (Q k)) ∧ Ext wy w')) :
    Calls Try.prog 34 #[.int .i64 (n : Nat), .func (.func 35) #[] #[.pointer (some ⟨b3, 0, none⟩), .pointer (some ⟨b2, 0, none⟩)]] w fun e w' =>
      ∃ m : Nat, e = .returned (.int .i64 (m : Nat)) ∧ m ≤ n ∧ (∀ k, k < m → Q k = false) ∧ (∀ k, m ≤ k → k < n → Q k = true) ∧ Ext w w' := by
  have HM := Lib.hid hmono
  clear hmono
  go_enter Try.func34, Try.ntmps34
  go_wp2_with fail
  go_loopw [5, 6, 7] (fun x y _ wr => ∃ i j : Nat, x = .int .i64 i ∧ y = .int .i64 j ∧ i ≤ j ∧ j ≤ n ∧ Hid (∀ k, k < i → Q k = false) ∧ Hid (∀ k, j ≤ k → k < n → Q k = true) ∧ Ext w wr) (fun x y _ _ => (intOf y).toNat - (intOf x).toNat)
  case atStart => exact ⟨0, n, rfl, rfl, by omega, by omega, Lib.hid (by omega), Lib.hid (by omega), Ext.refl _⟩
  case round =>
    obtain ⟨i, j, rfl, rfl, hij, hjn, hlo, hhi, hE⟩ := hrel
    by_cases hlt : i < j
    · obtain ⟨h, hh'⟩ : ∃ h, (i + j) / 2 = h := ⟨_, rfl⟩
      have hh : ((i : Int) + (j : Int)) / 2 = (h : Int) := by omega
      have hhn : h < n := by omega
      have hhi' : i ≤ h := by omega
      have hhj : h < j := by omega
      clear hh'
      go_wp2_with fail
      refine (HF.out wr hE h hhn).mono ?_
      rintro e w1 ⟨rfl, hE1⟩
      have HE1 := Lib.hid (hE.trans hE1)
      clear hE1
      obtain ⟨b, hb⟩ : ∃ z, Q h = z := ⟨_, rfl⟩
      rw [hb]
      have HB := Lib.hid hb
      clear hb
      cases b with
      | false =>
        go_wp2_with fail
        go_roundw
        case rel =>
          refine ⟨h + 1, j, by simp, rfl, by omega, hjn, Lib.hid fun k hk => ?_, hhi, HE1.out⟩
          cases hq : Q k with
          | false => rfl
          | true =>
            have := HM.out k h (by omega) hhn hq
            rw [HB.out] at this
            cases this
        case measure => simp [intOf]; omega
      | true =>
        go_wp2_with fail
        go_roundw
        case rel => exact ⟨i, h, rfl, rfl, hhi', by omega, hlo, Lib.hid fun k hk hkn => HM.out h k hk hkn HB.out, HE1.out⟩
        case measure => simp [intOf]; omega
    · obtain rfl : i = j := by omega
      go_wp2_with fail
      go_ret
      exact ⟨i, rfl, hjn, hlo.out, hhi.out, hE⟩

theorem bring15_any {F : FuncId} {fn : Func} {c : Code} (hf : Try.prog.funcs[F]? = some fn) (hb : fn.body = some c) (hn : (fn.name == "runtime.NumGoroutine") = false) {w : World} {B p : Nat} {cs : List (List Int)} (h : IsOrd w B p cs) (q b3 b2 k : Nat) (Qk : Bool) (hk : k < cs.length)
    (hc3 : w.cell? ⟨b3, 0, none⟩ = some (.func (.func F) #[] #[.pointer (some ⟨q, 0, none⟩)])) (hc2 : w.cell? ⟨b2, 0, none⟩ = some (.pointer (some ⟨p, 0, none⟩)))
    (HH : Hid (∀ wy, Ext w wy → ∀ a n c, Ints wy (.slice a n c) cs[k] → Calls Try.prog F #[.slice a n c, .pointer (some ⟨q, 0, none⟩)] wy fun e w' => e = .returned (.bool Qk) ∧ Ext wy w')) :
    Calls Try.prog 35 #[.int .i64 (k : Nat), .pointer (some ⟨b3, 0, none⟩), .pointer (some ⟨b2, 0, none⟩)] w fun e w' => e = .returned (.bool Qk) ∧ Ext w w' := by
  obtain ⟨g, cp, h1, h2, h3, h4⟩ := h.open
  obtain ⟨n, hnn⟩ : ∃ n, cs.length = n := ⟨_, rfl⟩
  rw [hnn] at h1 h2
  obtain ⟨a, m, z, hc, hO⟩ := h4 k hk
  have HO := Lib.hid hO.ints
  have HC := Lib.hid hc
  have H1 := Lib.hid h1
  have HC3 := Lib.hid hc3
  have HC2 := Lib.hid hc2
  have HF := Lib.hid hf
  have HB := Lib.hid hb
  have HNM := Lib.hid hn
  have hkn : k < n := by omega
  obtain ⟨ck, hck⟩ : ∃ z, cs[k] = z := ⟨_, rfl⟩
  rw [hck] at HH HO
  clear h4 hO hc h1 hc3 hc2 hf hb hn h hck hk hnn
  go_enter Try.func35, Try.ntmps35
  go_wp2_with fail
  refine wp_region_facts (by kernel_rfl) Ext (fun iop v w => match iop with
      | 0 => v = .func (.func F) #[] #[.pointer (some ⟨q, 0, none⟩)]
      | 1 => v = .pointer (some ⟨p, 0, none⟩)
      | 2 => v = .pointer (some ⟨p, 0, none⟩)
      | 3 => v = .pointer (some ⟨p, 0, none⟩)
      | 4 => v = .slice (some ⟨g, 0, none⟩) n cp
      | 5 => v = .int .i64 (k : Nat)
      | 6 => v = .pointer (some ⟨g, k, none⟩)
      | 7 => v = .slice a m z
      | 8 => v = .bool Qk
      | _ => v = .bool Qk
      ) (by kernel_rfl) (fun _ _ _ h k => Ext.trans h k) (fun a => Ext.refl a) (Ext.drew _) ?_ ?_ ?_
  · intro iop v wa wb hF hL
    iterate 9 (rcases iop with _ | iop; exact hF)
    exact hF
  · refine Obls.cons ?_ (Obls.cons ?_ (Obls.cons ?_ (Obls.cons ?_ (Obls.cons ?_ (Obls.cons ?_ (Obls.cons ?_ (Obls.cons ?_ (Obls.cons ?_ (Obls.cons ?_ (Obls.nil))))))))))
    · intro ev wy hp hl hk hd
      have e1 : ev _ = .pointer (some ⟨b3, 0, none⟩) := hk 1 (by decide)
      exact Yield.op (v := .func (.func F) #[] #[.pointer (some ⟨q, 0, none⟩)]) (w' := wy) (by simp [execOp, go_sem, e1, cellExt15 HC3.out hl]) ⟨Ext.refl _, rfl⟩
    · intro ev wy hp hl hk hd
      have e2 : ev _ = .pointer (some ⟨b2, 0, none⟩) := hk 2 (by decide)
      exact Yield.op (v := .pointer (some ⟨p, 0, none⟩)) (w' := wy) (by simp [execOp, go_sem, e2, cellExt15 HC2.out hl]) ⟨Ext.refl _, rfl⟩
    · intro ev wy hp hl hk hd
      have e6 : ev _ = _ := hk 6 (by decide)
      exact Yield.oq (by simp [execOp, go_sem, e6])
    · intro ev wy hp hl hk hd
      have e7 : ev _ = _ := hk 7 (by decide)
      exact Yield.oq (by simp [execOp, go_sem, e7])
    · intro ev wy hp hl hk hd
      have e8 : ev _ = _ := hk 8 (by decide)
      exact Yield.op (v := .slice (some ⟨g, 0, none⟩) n cp) (w' := wy) (by simp [execOp, go_sem, e8, cell_of_heap (heap_ext H1.out hl) 0]) ⟨Ext.refl _, rfl⟩
    · intro ev wy hp hl hk hd
      have e0 : ev _ = .int .i64 (k : Nat) := hk 0 (by decide)
      exact Yield.mv rfl ⟨Ext.refl _, e0⟩
    · intro ev wy hp hl hk hd
      have e9 : ev _ = _ := hk 9 (by decide)
      have e10 : ev _ = _ := hk 10 (by decide)
      exact Yield.op (v := .pointer (some ⟨g, k, none⟩)) (w' := wy) (by simp [execOp, go_sem, e9, e10]; intro hq; omega) ⟨Ext.refl _, rfl⟩
    · intro ev wy hp hl hk hd
      have e11 : ev _ = _ := hk 11 (by decide)
      exact Yield.op (v := .slice a m z) (w' := wy) (by simp [execOp, go_sem, e11, cellExt15 HC.out hl]) ⟨Ext.refl _, rfl⟩
    · intro ev wy hp hl hk hd
      have e5 : ev _ = _ := hk 5 (by decide)
      have e12 : ev _ = _ := hk 12 (by decide)
      refine Yield.callw15 rfl e5 HF.out HB.out HNM.out ?_
      simp only [List.map_toArray, List.map_cons, List.map_nil, List.append_toArray, List.cons_append, List.nil_append, e12]
      exact (HH.out wy hl a m z (HO.out.below hl)).mono fun _ _ ⟨he, hb⟩ => ⟨_, he, hb, rfl⟩
    · intro ev wy hp hl hk hd
      have e13 : ev _ = _ := hk 13 (by decide)
      exact Yield.as rfl ⟨Ext.refl _, e13⟩
  · intro vals wz hz hv
    have g5 : vals 0 = _ := hv 0 (by decide)
    have g6 : vals 1 = _ := hv 1 (by decide)
    have g7 : vals 2 = _ := hv 2 (by decide)
    have g8 : vals 3 = _ := hv 3 (by decide)
    have g9 : vals 4 = _ := hv 4 (by decide)
    have g10 : vals 5 = _ := hv 5 (by decide)
    have g11 : vals 6 = _ := hv 6 (by decide)
    have g12 : vals 7 = _ := hv 7 (by decide)
    have g13 : vals 8 = _ := hv 8 (by decide)
    have g4 : vals 9 = _ := hv 9 (by decide)
    clear hv
    simp only [putAll, Act.put, List.setIfInBounds_toArray, List.set_cons_zero, List.set_cons_succ, g5, g6, g7, g8, g9, g10, g11, g12, g13, g4]
    clear g5 g6 g7 g8 g9 g10 g11 g12 g13 g4
    go_wp2_with fail
    go_ret
    exact ⟨rfl, hz⟩

/-- Which entry brings: the first that has it. -/
def GivesBring (cs : List (List Int)) (Q : Nat → Bool) (w : World) (e : Ending) (w' : World) : Prop :=
  ∃ m : Nat, e = .returned (.tuple #[.int .i64 (m : Nat), .bool (decide (0 < m ∧ m < cs.length))]) ∧ m ≤ cs.length ∧ (∀ k, k < m → Q k = false) ∧ (∀ k, m ≤ k → k < cs.length → Q k = true) ∧ Ext w w'
theorem bringer15_any {F : FuncId} {fn : Func} {c : Code} (hf : Try.prog.funcs[F]? = some fn) (hb : fn.body = some c) (hn : (fn.name == "runtime.NumGoroutine") = false) {w : World} {B p : Nat} {cs : List (List Int)} (h : IsOrd w B p cs) (hlong : cs.length ≤ 4398046511106) (q : Nat) (Q : Nat → Bool) (hmono : ∀ i j, i ≤ j → j < cs.length → Q i = true → Q j = true)
    (HH : Hid (∀ wy, Ext w wy → ∀ k (hk : k < cs.length) a n c, Ints wy (.slice a n c) cs[k] → Calls Try.prog F #[.slice a n c, .pointer (some ⟨q, 0, none⟩)] wy fun e w' => e = .returned (.bool (Q k)) ∧ Ext wy w')) :
    Calls Try.prog 24 #[.pointer (some ⟨p, 0, none⟩), .func (.func F) #[] #[.pointer (some ⟨q, 0, none⟩)]] w (GivesBring cs Q w) := by
  obtain ⟨g, cp, h1, h2, h3, _⟩ := h.open
  obtain ⟨n, hnn⟩ : ∃ n, cs.length = n := ⟨_, rfl⟩
  obtain ⟨b2, hb2⟩ : ∃ z, w.heap.size = z := ⟨_, rfl⟩
  obtain ⟨w1, hw1⟩ : ∃ z, w.alloc (.cells #[.pointer (some ⟨p, 0, none⟩)] 25) = z := ⟨_, rfl⟩
  obtain ⟨w2, hw2⟩ : ∃ z, w1.alloc (.cells #[.func (.func F) #[] #[.pointer (some ⟨q, 0, none⟩)]] 62) = z := ⟨_, rfl⟩
  have hE1 : Ext w w1 := by rw [← hw1]; exact Ext.alloc _ _
  have hE2 : Ext w1 w2 := by rw [← hw2]; exact Ext.alloc _ _
  have hB2 : w1.heap[b2]? = some (.cells #[.pointer (some ⟨p, 0, none⟩)] 25 (0, 0)) := by rw [← hw1, ← hb2]; exact heap_alloc_new _ _
  have hs1 : w1.heap.size = b2 + 1 := by rw [← hw1, World.size_alloc, hb2]
  have hB3 : w2.heap[b2 + 1]? = some (.cells #[.func (.func F) #[] #[.pointer (some ⟨q, 0, none⟩)]] 62 (0, 0)) := by rw [← hw2, ← hs1]; exact heap_alloc_new _ _
  have HW := Lib.hid (And.intro hb2 (And.intro hw1 (And.intro hs1 hw2)))
  have HX := Lib.hid (And.intro (hE1.trans hE2) (And.intro (heap_ext hB2 hE2) hB3))
  have c2 := cell_of_heap HX.out.2.1 0
  have c3 := cell_of_heap HX.out.2.2 0
  simp only [List.getElem?_toArray, List.getElem?_cons_zero] at c2 c3
  have HI := Lib.hid (h.ext HX.out.1)
  have hp1 := cell_of_heap (heap_ext h1 HX.out.1) 0
  simp only [List.getElem?_toArray, List.getElem?_cons_zero] at hp1
  have HC2 := Lib.hid c2
  have HC3 := Lib.hid c3
  have HS := Lib.hid (search15_any n Q (b2 + 1) b2 w2 (by rw [← hnn]; exact hmono) (by omega) (Lib.hid fun wy hy k hk => bring15_any hf hb hn (HI.out.ext hy) q (b2 + 1) b2 k (Q k) (by omega) (cellExt15 HC3.out hy) (cellExt15 HC2.out hy) (Lib.hid fun wx hx a m z hi => HH.out wx ((HX.out.1.trans hy).trans hx) k (by omega) a m z hi)))
  rw [hnn] at hp1
  have H1 := Lib.hid (heap_ext h1 HX.out.1)
  rw [hnn] at H1
  have HN := Lib.hid hnn
  clear hb2 hw1 hw2 hE1 hE2 hB2 hs1 hB3 h1 h2 h hmono hf hb hn
  go_enter Try.func24, Try.ntmps24
  go_upto_region 1 with fail
  rw [HW.out.1, HW.out.2.1]
  rw [HW.out.2.2.2]
  go_wp2_with fail
  refine HS.out.mono ?_
  rintro e w3 ⟨m, rfl, hm, hlo, hhi, hE3⟩
  have HB := Lib.hid (And.intro hm (And.intro hlo hhi))
  have HE3 := Lib.hid (HX.out.1.trans hE3)
  have HD2 := Lib.hid (cellExt15 HC2.out hE3)
  have HD1 := Lib.hid (heap_ext H1.out hE3)
  clear hm hlo hhi hE3
  by_cases hm0 : 0 < m
  · go_wp2_with fail
    refine wp_region_facts (by kernel_rfl) Ext (fun iop v w => match iop with
        | 0 => v = .int .i64 (m : Nat)
        | 1 => v = .int .i64 (m : Nat)
        | 2 => v = .bool true
        | 3 => v = .bool true
        | 4 => v = .int .i64 (m : Nat)
        | 5 => v = .pointer (some ⟨p, 0, none⟩)
        | 6 => v = .pointer (some ⟨p, 0, none⟩)
        | 7 => v = .pointer (some ⟨p, 0, none⟩)
        | 8 => v = .slice (some ⟨g, 0, none⟩) n cp
        | 9 => v = .int .i64 (n : Nat)
        | 10 => v = .bool (decide (m < n))
        | 11 => v = .bool (decide (m < n))
        | 12 => v = .int .i64 (m : Nat)
        | _ => v = .bool (decide (m < n))
        ) (by kernel_rfl) (fun _ _ _ h k => Ext.trans h k) (fun a => Ext.refl a) (Ext.drew _) ?_ ?_ ?_
    · intro iop v wa wb hF hL
      iterate 13 (rcases iop with _ | iop; exact hF)
      exact hF
    · refine Obls.cons ?_ (Obls.cons ?_ (Obls.cons ?_ (Obls.cons ?_ (Obls.cons ?_ (Obls.cons ?_ (Obls.cons ?_ (Obls.cons ?_ (Obls.cons ?_ (Obls.cons ?_ (Obls.cons ?_ (Obls.cons ?_ (Obls.cons ?_ (Obls.cons ?_ (Obls.nil))))))))))))))
      · intro ev wy hp hl hk hd
        have e6 : ev _ = .int .i64 (m : Nat) := hk 6 (by decide)
        exact Yield.mv rfl ⟨Ext.refl _, e6⟩
      · intro ev wy hp hl hk hd
        have e6 : ev _ = .int .i64 (m : Nat) := hk 6 (by decide)
        exact Yield.mv rfl ⟨Ext.refl _, e6⟩
      · intro ev wy hp hl hk hd
        have e15 : ev _ = _ := hk 15 (by decide)
        exact Yield.op (v := .bool true) (w' := wy) (by simp [execOp, go_sem, e15, hp.const, hm0]) ⟨Ext.refl _, rfl⟩
      · intro ev wy hp hl hk hd
        have e16 : ev _ = _ := hk 16 (by decide)
        exact Yield.mv rfl ⟨Ext.refl _, e16⟩
      · intro ev wy hp hl hk hd
        have e6 : ev _ = .int .i64 (m : Nat) := hk 6 (by decide)
        refine ⟨fun _ _ _ => ?_, fun _ hx hne => absurd hx hne⟩
        exact Yield.mv rfl ⟨Ext.refl _, e6⟩
      · intro ev wy hp hl hk hd
        have e2 : ev _ = .pointer (some ⟨b2, 0, none⟩) := hk 2 (by decide)
        refine ⟨fun _ _ _ => ?_, fun _ hx hne => absurd hx hne⟩
        exact Yield.op (v := .pointer (some ⟨p, 0, none⟩)) (w' := wy) (by simp [execOp, go_sem, e2, cellExt15 HD2.out hl]) ⟨Ext.refl _, rfl⟩
      · intro ev wy hp hl hk hd
        have e19 : ev _ = _ := hk 19 (by decide)
        refine ⟨fun _ _ _ => ?_, fun _ hx hne => absurd hx hne⟩
        exact Yield.op (v := .pointer (some ⟨p, 0, none⟩)) (w' := wy) (by simp [execOp, go_sem, e19]) ⟨Ext.refl _, rfl⟩
      · intro ev wy hp hl hk hd
        have e20 : ev _ = _ := hk 20 (by decide)
        refine ⟨fun _ _ _ => ?_, fun _ hx hne => absurd hx hne⟩
        exact Yield.op (v := .pointer (some ⟨p, 0, none⟩)) (w' := wy) (by simp [execOp, go_sem, e20]) ⟨Ext.refl _, rfl⟩
      · intro ev wy hp hl hk hd
        have e21 : ev _ = _ := hk 21 (by decide)
        refine ⟨fun _ _ _ => ?_, fun _ hx hne => absurd hx hne⟩
        exact Yield.op (v := .slice (some ⟨g, 0, none⟩) n cp) (w' := wy) (by simp [execOp, go_sem, e21, cell_of_heap (heap_ext HD1.out hl) 0]) ⟨Ext.refl _, rfl⟩
      · intro ev wy hp hl hk hd
        have e22 : ev _ = _ := hk 22 (by decide)
        refine ⟨fun _ _ _ => ?_, fun _ hx hne => absurd hx hne⟩
        exact Yield.op (v := .int .i64 (n : Nat)) (w' := wy) (by simp [execOp, go_sem, e22]) ⟨Ext.refl _, rfl⟩
      · intro ev wy hp hl hk hd
        have e18 : ev _ = _ := hk 18 (by decide)
        have e23 : ev _ = _ := hk 23 (by decide)
        refine ⟨fun _ _ _ => ?_, fun _ hx hne => absurd hx hne⟩
        exact Yield.op (v := .bool (decide (m < n))) (w' := wy) (by simp [execOp, go_sem, e18, e23]) ⟨Ext.refl _, rfl⟩
      · intro ev wy hp hl hk hd
        have e17 : ev _ = _ := hk 17 (by decide)
        have e24 : ev _ = _ := hk 24 (by decide)
        exact Yield.pick (t := true) rfl e17 ⟨Ext.refl _, e24⟩
      · intro ev wy hp hl hk hd
        have e14 : ev _ = _ := hk 14 (by decide)
        exact Yield.as rfl ⟨Ext.refl _, e14⟩
      · intro ev wy hp hl hk hd
        have e25 : ev _ = _ := hk 25 (by decide)
        exact Yield.as rfl ⟨Ext.refl _, e25⟩
    · intro vals wz hz hv
      have g14 : vals 0 = _ := hv 0 (by decide)
      have g15 : vals 1 = _ := hv 1 (by decide)
      have g16 : vals 2 = _ := hv 2 (by decide)
      have g17 : vals 3 = _ := hv 3 (by decide)
      have g18 : vals 4 = _ := hv 4 (by decide)
      have g19 : vals 5 = _ := hv 5 (by decide)
      have g20 : vals 6 = _ := hv 6 (by decide)
      have g21 : vals 7 = _ := hv 7 (by decide)
      have g22 : vals 8 = _ := hv 8 (by decide)
      have g23 : vals 9 = _ := hv 9 (by decide)
      have g24 : vals 10 = _ := hv 10 (by decide)
      have g25 : vals 11 = _ := hv 11 (by decide)
      have g4 : vals 12 = _ := hv 12 (by decide)
      have g5 : vals 13 = _ := hv 13 (by decide)
      clear hv
      simp only [putAll, Act.put, List.setIfInBounds_toArray, List.set_cons_zero, List.set_cons_succ, g14, g15, g16, g17, g18, g19, g20, g21, g22, g23, g24, g25, g4, g5]
      clear g14 g15 g16 g17 g18 g19 g20 g21 g22 g23 g24 g25 g4 g5
      go_wp2_with fail
      go_ret2
      refine ⟨m, ?_, by rw [HN.out]; exact HB.out.1, HB.out.2.1, by rw [HN.out]; exact HB.out.2.2, HE3.out.trans hz⟩
      rw [HN.out]
      simp [hm0]
  · go_wp2_with fail
    refine wp_region_facts (by kernel_rfl) Ext (fun iop v w => match iop with
        | 0 => v = .int .i64 (m : Nat)
        | 1 => v = .int .i64 (m : Nat)
        | 2 => v = .bool false
        | 3 => v = .bool false
        | 4 => v = undef
        | 5 => v = undef
        | 6 => v = undef
        | 7 => v = undef
        | 8 => v = undef
        | 9 => v = undef
        | 10 => v = undef
        | 11 => v = .bool false
        | 12 => v = .int .i64 (m : Nat)
        | _ => v = .bool false
        ) (by kernel_rfl) (fun _ _ _ h k => Ext.trans h k) (fun a => Ext.refl a) (Ext.drew _) ?_ ?_ ?_
    · intro iop v wa wb hF hL
      iterate 13 (rcases iop with _ | iop; exact hF)
      exact hF
    · refine Obls.cons ?_ (Obls.cons ?_ (Obls.cons ?_ (Obls.cons ?_ (Obls.cons ?_ (Obls.cons ?_ (Obls.cons ?_ (Obls.cons ?_ (Obls.cons ?_ (Obls.cons ?_ (Obls.cons ?_ (Obls.cons ?_ (Obls.cons ?_ (Obls.cons ?_ (Obls.nil))))))))))))))
      · intro ev wy hp hl hk hd
        have e6 : ev _ = .int .i64 (m : Nat) := hk 6 (by decide)
        exact Yield.mv rfl ⟨Ext.refl _, e6⟩
      · intro ev wy hp hl hk hd
        have e6 : ev _ = .int .i64 (m : Nat) := hk 6 (by decide)
        exact Yield.mv rfl ⟨Ext.refl _, e6⟩
      · intro ev wy hp hl hk hd
        have e15 : ev _ = _ := hk 15 (by decide)
        exact Yield.op (v := .bool false) (w' := wy) (by simp [execOp, go_sem, e15, hp.const, hm0]) ⟨Ext.refl _, rfl⟩
      · intro ev wy hp hl hk hd
        have e16 : ev _ = _ := hk 16 (by decide)
        exact Yield.mv rfl ⟨Ext.refl _, e16⟩
      · intro ev wy hp hl hk hd
        have e6 : ev _ = .int .i64 (m : Nat) := hk 6 (by decide)
        exact ⟨fun x hx he => (by rw [show x = .bool false from hx] at he; cases he), fun _ _ _ => rfl⟩
      · intro ev wy hp hl hk hd
        have e2 : ev _ = .pointer (some ⟨b2, 0, none⟩) := hk 2 (by decide)
        exact ⟨fun x hx he => (by rw [show x = .bool false from hx] at he; cases he), fun _ _ _ => rfl⟩
      · intro ev wy hp hl hk hd
        have e19 : ev _ = _ := hk 19 (by decide)
        exact ⟨fun x hx he => (by rw [show x = .bool false from hx] at he; cases he), fun _ _ _ => rfl⟩
      · intro ev wy hp hl hk hd
        have e20 : ev _ = _ := hk 20 (by decide)
        exact ⟨fun x hx he => (by rw [show x = .bool false from hx] at he; cases he), fun _ _ _ => rfl⟩
      · intro ev wy hp hl hk hd
        have e21 : ev _ = _ := hk 21 (by decide)
        exact ⟨fun x hx he => (by rw [show x = .bool false from hx] at he; cases he), fun _ _ _ => rfl⟩
      · intro ev wy hp hl hk hd
        have e22 : ev _ = _ := hk 22 (by decide)
        exact ⟨fun x hx he => (by rw [show x = .bool false from hx] at he; cases he), fun _ _ _ => rfl⟩
      · intro ev wy hp hl hk hd
        have e18 : ev _ = _ := hk 18 (by decide)
        have e23 : ev _ = _ := hk 23 (by decide)
        exact ⟨fun x hx he => (by rw [show x = .bool false from hx] at he; cases he), fun _ _ _ => rfl⟩
      · intro ev wy hp hl hk hd
        have e17 : ev _ = _ := hk 17 (by decide)
        have e24 : ev _ = _ := hk 24 (by decide)
        exact Yield.pick (t := false) rfl e17 ⟨Ext.refl _, hp.const _⟩
      · intro ev wy hp hl hk hd
        have e14 : ev _ = _ := hk 14 (by decide)
        exact Yield.as rfl ⟨Ext.refl _, e14⟩
      · intro ev wy hp hl hk hd
        have e25 : ev _ = _ := hk 25 (by decide)
        exact Yield.as rfl ⟨Ext.refl _, e25⟩
    · intro vals wz hz hv
      have g14 : vals 0 = _ := hv 0 (by decide)
      have g15 : vals 1 = _ := hv 1 (by decide)
      have g16 : vals 2 = _ := hv 2 (by decide)
      have g17 : vals 3 = _ := hv 3 (by decide)
      have g18 : vals 4 = _ := hv 4 (by decide)
      have g19 : vals 5 = _ := hv 5 (by decide)
      have g20 : vals 6 = _ := hv 6 (by decide)
      have g21 : vals 7 = _ := hv 7 (by decide)
      have g22 : vals 8 = _ := hv 8 (by decide)
      have g23 : vals 9 = _ := hv 9 (by decide)
      have g24 : vals 10 = _ := hv 10 (by decide)
      have g25 : vals 11 = _ := hv 11 (by decide)
      have g4 : vals 12 = _ := hv 12 (by decide)
      have g5 : vals 13 = _ := hv 13 (by decide)
      clear hv
      simp only [putAll, Act.put, List.setIfInBounds_toArray, List.set_cons_zero, List.set_cons_succ, g14, g15, g16, g17, g18, g19, g20, g21, g22, g23, g24, g25, g4, g5]
      clear g14 g15 g16 g17 g18 g19 g20 g21 g22 g23 g24 g25 g4 g5
      go_wp2_with fail
      go_ret2
      refine ⟨m, ?_, by rw [HN.out]; exact HB.out.1, HB.out.2.1, by rw [HN.out]; exact HB.out.2.2, HE3.out.trans hz⟩
      rw [HN.out]
      simp [hm0]
end Go.Proofs.Ytnldbdgchkknpaa
