/-
  Merged: Layer 12: Len, Sealed.
-/
import Derived.Test.YtnoeconcpgdjlaaBsMsg
import Derived.Test.YtnoeconcpgdjlaaBsQuA
import Derived.Test.YtnoeconcpgdjlaaBsTerm

namespace Go.Proofs.Ytnoeconcpgdjlaa
set_option linter.unusedSimpArgs false
set_option linter.unusedVariables false
set_option maxRecDepth 100000
open Go.RowKit Go.ChangeMaps
/- Layer 12: Len, Sealed; New. -/
section
variable {w : World} {B x kb : Nat} {ev : Value} {es : List (Value × Ent.E)} {p : Quo.Pr}
theorem len12_any (h : PrAt w B x kb ev es p) : Calls Try.prog 23 #[.pointer (some ⟨x, 0, none⟩)] w fun e w' => e = .returned (.int .i64 (p.l.length : Nat)) ∧ w = w' := by
  have hlen := h.len
  obtain ⟨a, c, rfl, hnc, hcm, _⟩ := h.open
  have c3 : w.cell? ⟨x, 3, none⟩ = some (.slice a es.length c) := cell_of_heap h.heap 3
  rw [hlen] at c3
  clear h hlen
  go_enter Try.func23, Try.ntmps23
  go_wp2
  go_ret
  exact ⟨rfl, rfl⟩
end
def GivesNew12 (w : World) (c : Term.C) (e : Ending) (w' : World) : Prop :=
  ((∃ x, Term.right c = true ∧ e = .returned (.tuple #[.pointer (some ⟨x, 0, none⟩), .int .i64 0]) ∧ ∃ S K, IsPr w' w.heap.size S K x (Quo.new c)) ∨
   (Term.right c = false ∧ e = .returned (.tuple #[.pointer none, .int .i64 1]))) ∧ Ext w w'
theorem build_pr12 (w : World) (t n m : Int) (kb : Nat) : (Instr.build 100 #[(0, .int .i64 t), (1, .int .i64 n), (2, .int .i64 m), (4, .map (some kb))]).run Try.prog w = .ok (.agg #[.int .i64 t, .int .i64 n, .int .i64 m, .slice none 0 0, .map (some kb), .bool false]) w := by kernel_rfl
theorem box_pr12 (w : World) (t n m : Int) (kb : Nat) : (Instr.box 100 (.agg #[.int .i64 t, .int .i64 n, .int .i64 m, .slice none 0 0, .map (some kb), .bool false])).run Try.prog w = .ok (.pointer (some ⟨w.heap.size, 0, none⟩)) (w.alloc (.cells #[.int .i64 t, .int .i64 n, .int .i64 m, .slice none 0 0, .map (some kb), .bool false] 100)) := by kernel_rfl
theorem Ints.at12 {w : World} {a : Option Addr} {n c : Nat} {l : List Int} (h : Ints w (.slice a n c) l) (i : Nat) (hi : i < l.length) : ∃ b off, a = some ⟨b, off, none⟩ ∧ w.cell? ⟨b, off + i, none⟩ = some (.int .i64 l[i]) := by
  obtain ⟨a', cap, e, _, _, _, hc⟩ := h
  injection e with e1 _ _
  subst e1
  obtain ⟨b, off, e, hcell⟩ := hc i (by simpa using hi)
  exact ⟨b, off, e, by simpa [i64s] using hcell⟩
set_option maxHeartbeats 40000000 in
theorem new12_any (w : World) (v : Value) (c : Term.C) (hv : IsConf w v c) :
    Calls Try.prog 21 #[v] w (GivesNew12 w c) := by
  have hbx := box_conf
  have HV := Lib.hid hv
  obtain ⟨s, d, rfl, hs, hd⟩ := hv
  obtain ⟨a0, n0, k0, rfl⟩ := intsSlice hs
  obtain ⟨a1, n1, k1, rfl⟩ := irowsSlice hd
  obtain ⟨tc, htc⟩ : ∃ z, c.term = z := ⟨_, rfl⟩
  have HS := Lib.hid hs
  have HD := Lib.hid hd
  have HTC := Lib.hid htc
  obtain ⟨w1, hw1⟩ : ∃ z, w.alloc (.cells #[.int .i64 tc, .slice a0 n0 k0, .slice a1 n1 k1] 36) = z := ⟨_, rfl⟩
  obtain ⟨q, hq⟩ : ∃ z, w.heap.size = z := ⟨_, rfl⟩
  have hE1 : Ext w w1 := by rw [← hw1]; exact Ext.alloc _ _
  have hc1 : w1.heap[q]? = some (.cells #[.int .i64 tc, .slice a0 n0 k0, .slice a1 n1 k1] 36 (0, 0)) := by rw [← hw1, ← hq]; exact heap_alloc_new _ _
  have HC1 := Lib.hid (And.intro hc1 hE1)
  have HQ := Lib.hid hq
  have y0 := cell_of_heap hc1 0
  have y1 := cell_of_heap hc1 1
  have y2 := cell_of_heap hc1 2
  simp at y0 y1 y2
  unfold confV
  rw [htc]
  clear htc
  have HW1 := Lib.hid hw1
  clear hs hd hc1 hE1 hq hw1
  go_enter Try.func21, Try.ntmps21
  go_upto_region 1 with fail
  rw [HW1.out, HQ.out]
  clear hbx
  go_wp2_with fail
  refine (right6_any _ c w1 ⟨_, _, by unfold confV; rw [HTC.out], HS.out.below HC1.out.2, HD.out.below HC1.out.2⟩).mono ?_
  rintro e w2 ⟨rfl, hE2⟩
  have HC2 := Lib.hid (And.intro (heap_ext HC1.out.1 hE2) (HC1.out.2.trans hE2))
  clear hE2 y0 y1 y2 HV
  cases hr : Term.right c with
  | false =>
    have HR := Lib.hid hr
    clear hr
    go_wp2_with fail
    go_ret2
    exact ⟨.inr ⟨HR.out, rfl⟩, HC2.out.2⟩
  | true =>
    have HR := Lib.hid hr
    have h4 := (Term.right_ok hr).2.2.2.1
    have HSL := Lib.hid (show c.seqs.length ≤ 140737488355328 by omega)
    have HLS := Lib.hid (show n1 = c.shards.length by obtain ⟨_, _, e, _⟩ := HD.out.open; cases e; rfl)
    obtain ⟨N, hN⟩ : ∃ N, Term.majority c = N := ⟨_, rfl⟩
    have HN := Lib.hid hN
    have HMJ := Lib.hid (show ∀ wy, Ext w2 wy → Calls Try.prog 32 #[.agg #[.int .i64 tc, .slice a0 n0 k0, .slice a1 n1 k1]] wy fun e w' => e = .returned (.int .i64 (N : Nat)) ∧ Ext wy w' from fun wy hl => by
      have := majority6_any (.agg #[.int .i64 tc, .slice a0 n0 k0, .slice a1 n1 k1]) c wy ⟨_, _, by unfold confV; rw [HTC.out], HS.out.below (HC2.out.2.trans hl), HD.out.below (HC2.out.2.trans hl)⟩ HSL.out
      rw [HN.out] at this
      exact this)
    clear hr h4 hN
    go_upto_region 3 with fail
    go_cut [4] (fun s4 wx => ∃ (x kb : Nat), s4 = .pointer (some ⟨x, 0, none⟩) ∧ Hid (w.heap.size ≤ x ∧ w.heap.size ≤ kb ∧ x ≠ kb ∧ Ext w wx ∧ wx.heap[q]? = some (.cells #[.int .i64 tc, .slice a0 n0 k0, .slice a1 n1 k1] 36 (0, 0)) ∧ wx.heap[x]? = some (.cells #[.int .i64 tc, .int .i64 (n1 : Nat), .int .i64 (N : Nat), .slice none 0 0, .map (some kb), .bool false] 100 (0, 0)) ∧ MapB Try.prog 3 wx kb []))
    case first =>
      refine wp_region_facts (by kernel_rfl) Ext (fun iop v w => match iop with
          | 0 => v = .pointer (some ⟨q, 0, none⟩)
          | 1 => v = .int .i64 tc
          | 2 => v = .pointer (some ⟨q, 2, none⟩)
          | 3 => v = .slice a1 n1 k1
          | 4 => v = .int .i64 (n1 : Nat)
          | 5 => v = .agg #[.int .i64 tc, .slice a0 n0 k0, .slice a1 n1 k1]
          | 6 => v = .int .i64 (N : Nat)
          | 7 => ∃ kb, v = .map (some kb) ∧ w2.heap.size ≤ kb ∧ MapB Try.prog 3 w kb []
          | 8 => ∃ kb, v = .agg #[.int .i64 tc, .int .i64 (n1 : Nat), .int .i64 (N : Nat), .slice none 0 0, .map (some kb), .bool false] ∧ w2.heap.size ≤ kb ∧ MapB Try.prog 3 w kb []
          | 9 => ∃ x kb, v = .pointer (some ⟨x, 0, none⟩) ∧ w2.heap.size ≤ x ∧ w2.heap.size ≤ kb ∧ x ≠ kb ∧ w.heap[x]? = some (.cells #[.int .i64 tc, .int .i64 (n1 : Nat), .int .i64 (N : Nat), .slice none 0 0, .map (some kb), .bool false] 100 (0, 0)) ∧ MapB Try.prog 3 w kb []
          | _ => ∃ x kb, v = .pointer (some ⟨x, 0, none⟩) ∧ w2.heap.size ≤ x ∧ w2.heap.size ≤ kb ∧ x ≠ kb ∧ w.heap[x]? = some (.cells #[.int .i64 tc, .int .i64 (n1 : Nat), .int .i64 (N : Nat), .slice none 0 0, .map (some kb), .bool false] 100 (0, 0)) ∧ MapB Try.prog 3 w kb []
          ) (by kernel_rfl) (fun _ _ _ h k => Ext.trans h k) (fun a => Ext.refl a) (Ext.drew _) ?_ ?_ ?_
      · intro iop v wa wb hF hL
        iterate 7 (rcases iop with _ | iop; exact hF)
        iterate 3 (rcases iop with _ | iop; (first | exact hF | (obtain ⟨kb, e, h1, h2⟩ := hF; exact ⟨kb, e, h1, h2.block (hL.block _ h2.lt)⟩) | (obtain ⟨x, kb, e, h0, h1, h2, h3, h4⟩ := hF; exact ⟨x, kb, e, h0, h1, h2, heap_ext h3 hL, h4.block (hL.block _ h4.lt)⟩)))
        (first | exact hF | (obtain ⟨kb, e, h1, h2⟩ := hF; exact ⟨kb, e, h1, h2.block (hL.block _ h2.lt)⟩) | (obtain ⟨x, kb, e, h0, h1, h2, h3, h4⟩ := hF; exact ⟨x, kb, e, h0, h1, h2, heap_ext h3 hL, h4.block (hL.block _ h4.lt)⟩))
      · refine Obls.cons ?_ (Obls.cons ?_ (Obls.cons ?_ (Obls.cons ?_ (Obls.cons ?_ (Obls.cons ?_ (Obls.cons ?_ (Obls.cons ?_ (Obls.cons ?_ (Obls.cons ?_ (Obls.cons ?_ (Obls.nil)))))))))))
        · intro ev wy hp hl hk hd
          have e1 : ev (.tmp 1) = .pointer (some ⟨q, 0, none⟩) := hk 1 (by decide)
          clear hk hd
          exact Yield.op (v := .pointer (some ⟨q, 0, none⟩)) (w' := wy) (by simp [execOp, go_sem, e1]) ⟨Ext.refl _, rfl⟩
        · intro ev wy hp hl hk hd
          have e10 : ev (.tmp 10) = .pointer (some ⟨q, 0, none⟩) := hk 10 (by decide)
          clear hk hd
          exact Yield.op (v := .int .i64 tc) (w' := wy) (by simp [execOp, go_sem, e10, cell_of_heap (heap_ext HC2.out.1 hl) 0]) ⟨Ext.refl _, rfl⟩
        · intro ev wy hp hl hk hd
          have e1 : ev (.tmp 1) = .pointer (some ⟨q, 0, none⟩) := hk 1 (by decide)
          clear hk hd
          exact Yield.op (v := .pointer (some ⟨q, 2, none⟩)) (w' := wy) (by simp [execOp, go_sem, e1]) ⟨Ext.refl _, rfl⟩
        · intro ev wy hp hl hk hd
          have e12 : ev (.tmp 12) = .pointer (some ⟨q, 2, none⟩) := hk 12 (by decide)
          clear hk hd
          exact Yield.op (v := .slice a1 n1 k1) (w' := wy) (by simp [execOp, go_sem, e12, cell_of_heap (heap_ext HC2.out.1 hl) 2]) ⟨Ext.refl _, rfl⟩
        · intro ev wy hp hl hk hd
          have e13 : ev (.tmp 13) = .slice a1 n1 k1 := hk 13 (by decide)
          clear hk hd
          exact Yield.op (v := .int .i64 (n1 : Nat)) (w' := wy) (by simp [execOp, go_sem, e13]) ⟨Ext.refl _, rfl⟩
        · intro ev wy hp hl hk hd
          have e1 : ev (.tmp 1) = .pointer (some ⟨q, 0, none⟩) := hk 1 (by decide)
          clear hk hd
          exact Yield.op (v := .agg #[.int .i64 tc, .slice a0 n0 k0, .slice a1 n1 k1]) (w' := wy) (by simp [execOp, go_sem, e1, cell_of_heap (heap_ext HC2.out.1 hl) 0, cell_of_heap (heap_ext HC2.out.1 hl) 1, cell_of_heap (heap_ext HC2.out.1 hl) 2]) ⟨Ext.refl _, rfl⟩
        · intro ev wy hp hl hk hd
          have e15 : ev (.tmp 15) = .agg #[.int .i64 tc, .slice a0 n0 k0, .slice a1 n1 k1] := hk 15 (by decide)
          clear hk hd
          refine Yield.call rfl hp Try.func32 rfl (by kernel_rfl) ?_
          simp only [List.map_toArray, List.map_cons, List.map_nil, e15]
          exact (HMJ.out wy hl).mono fun _ _ ⟨he, hb⟩ => ⟨_, he, hb, by first | rfl | simp⟩
        · intro ev wy hp hl hk hd
          clear hk hd
          exact Yield.op (v := .map (some wy.heap.size)) (w' := wy.alloc (.map #[] 0)) (by simp [execOp, run_makeMap, Sem.run_bind]) ⟨Ext.alloc _ _, _, rfl, hl.size, MapB.made _ _ _⟩
        · intro ev wy hp hl hk hd
          have e11 : ev (.tmp 11) = .int .i64 tc := hk 11 (by decide)
          have e14 : ev (.tmp 14) = .int .i64 (n1 : Nat) := hk 14 (by decide)
          have e16 : ev (.tmp 16) = .int .i64 (N : Nat) := hk 16 (by decide)
          have f17 : (fun (v : Value) (w : World) => ∃ kb, v = .map (some kb) ∧ w2.heap.size ≤ kb ∧ MapB Try.prog 3 w kb []) (ev (.tmp 17)) wy := hk 17 (by decide)
          generalize hx17 : ev (.tmp 17) = x17 at *
          clear hk hd
          obtain ⟨kb, ekb, h1, h2⟩ := f17
          exact Yield.op (v := .agg #[.int .i64 tc, .int .i64 (n1 : Nat), .int .i64 (N : Nat), .slice none 0 0, .map (some kb), .bool false]) (w' := wy) (by simp [execOp, e11, e14, e16, hx17, ekb, build_pr12, Sem.run_bind]) ⟨Ext.refl _, _, rfl, h1, h2⟩
        · intro ev wy hp hl hk hd
          have f18 : (fun (v : Value) (w : World) => ∃ kb, v = .agg #[.int .i64 tc, .int .i64 (n1 : Nat), .int .i64 (N : Nat), .slice none 0 0, .map (some kb), .bool false] ∧ w2.heap.size ≤ kb ∧ MapB Try.prog 3 w kb []) (ev (.tmp 18)) wy := hk 18 (by decide)
          generalize hx18 : ev (.tmp 18) = x18 at *
          clear hk hd
          obtain ⟨kb, ekb, h1, h2⟩ := f18
          exact Yield.op (v := .pointer (some ⟨wy.heap.size, 0, none⟩)) (w' := wy.alloc (.cells #[.int .i64 tc, .int .i64 (n1 : Nat), .int .i64 (N : Nat), .slice none 0 0, .map (some kb), .bool false] 100)) (by simp [execOp, hx18, ekb, box_pr12, Sem.run_bind]) ⟨Ext.alloc _ _, _, _, rfl, hl.size, h1, (fun e => by have := h2.lt; omega), heap_alloc_new _ _, h2.block ((Ext.alloc _ _).block _ h2.lt)⟩
        · intro ev wy hp hl hk hd
          have f19 : (fun (v : Value) (w : World) => ∃ x kb, v = .pointer (some ⟨x, 0, none⟩) ∧ w2.heap.size ≤ x ∧ w2.heap.size ≤ kb ∧ x ≠ kb ∧ w.heap[x]? = some (.cells #[.int .i64 tc, .int .i64 (n1 : Nat), .int .i64 (N : Nat), .slice none 0 0, .map (some kb), .bool false] 100 (0, 0)) ∧ MapB Try.prog 3 w kb []) (ev (.tmp 19)) wy := hk 19 (by decide)
          generalize hx19 : ev (.tmp 19) = x19 at *
          clear hk hd
          exact Yield.as rfl ⟨Ext.refl _, by rw [hx19]; exact f19⟩
      · intro vals wz hz hv
        have g10 : vals 0 = .pointer (some ⟨q, 0, none⟩) := hv 0 (by decide)
        have g11 : vals 1 = .int .i64 tc := hv 1 (by decide)
        have g12 : vals 2 = .pointer (some ⟨q, 2, none⟩) := hv 2 (by decide)
        have g13 : vals 3 = .slice a1 n1 k1 := hv 3 (by decide)
        have g14 : vals 4 = .int .i64 (n1 : Nat) := hv 4 (by decide)
        have g15 : vals 5 = .agg #[.int .i64 tc, .slice a0 n0 k0, .slice a1 n1 k1] := hv 5 (by decide)
        have g16 : vals 6 = .int .i64 (N : Nat) := hv 6 (by decide)
        have g17 : (fun (v : Value) (w : World) => ∃ kb, v = .map (some kb) ∧ w2.heap.size ≤ kb ∧ MapB Try.prog 3 w kb []) (vals 7) wz := hv 7 (by decide)
        have g18 : (fun (v : Value) (w : World) => ∃ kb, v = .agg #[.int .i64 tc, .int .i64 (n1 : Nat), .int .i64 (N : Nat), .slice none 0 0, .map (some kb), .bool false] ∧ w2.heap.size ≤ kb ∧ MapB Try.prog 3 w kb []) (vals 8) wz := hv 8 (by decide)
        have g19 : (fun (v : Value) (w : World) => ∃ x kb, v = .pointer (some ⟨x, 0, none⟩) ∧ w2.heap.size ≤ x ∧ w2.heap.size ≤ kb ∧ x ≠ kb ∧ w.heap[x]? = some (.cells #[.int .i64 tc, .int .i64 (n1 : Nat), .int .i64 (N : Nat), .slice none 0 0, .map (some kb), .bool false] 100 (0, 0)) ∧ MapB Try.prog 3 w kb []) (vals 9) wz := hv 9 (by decide)
        have g4 : (fun (v : Value) (w : World) => ∃ x kb, v = .pointer (some ⟨x, 0, none⟩) ∧ w2.heap.size ≤ x ∧ w2.heap.size ≤ kb ∧ x ≠ kb ∧ w.heap[x]? = some (.cells #[.int .i64 tc, .int .i64 (n1 : Nat), .int .i64 (N : Nat), .slice none 0 0, .map (some kb), .bool false] 100 (0, 0)) ∧ MapB Try.prog 3 w kb []) (vals 10) wz := hv 10 (by decide)
        clear hv
        simp only [putAll, Act.put, List.setIfInBounds_toArray, List.set_cons_zero, List.set_cons_succ, g10, g11, g12, g13, g14, g15, g16]
        clear g10
        clear g11
        clear g12
        clear g13
        clear g14
        clear g15
        clear g16
        generalize vals 7 = v17 at *
        generalize vals 8 = v18 at *
        generalize vals 9 = v19 at *
        generalize vals 10 = v4 at *
        obtain ⟨x, kb, ex, h0, h1, h2, h3, h4⟩ := g4
        go_wp2_with fail
        go_meet
        exact ⟨x, kb, ex, Lib.hid ⟨Nat.le_trans HC2.out.2.size h0, Nat.le_trans HC2.out.2.size h1, h2, HC2.out.2.trans hz, heap_ext HC2.out.1 hz, h3, h4⟩⟩
    case rest =>
      obtain ⟨x, kb, rfl, H⟩ := hcut
      obtain ⟨wB, hwB⟩ : ∃ z, z = wc := ⟨_, rfl⟩
      subst hwB
      have y1 : wB.cell? ⟨q, 1, none⟩ = some (.slice a0 n0 k0) := cell_of_heap H.out.2.2.2.2.1 1
      have x4 : wB.cell? ⟨x, 4, none⟩ = some (.map (some kb)) := cell_of_heap H.out.2.2.2.2.2.1 4
      obtain ⟨hn0, hnk, hk9⟩ : n0 = c.seqs.length ∧ n0 ≤ k0 ∧ k0 ≤ 9223372036854775807 := by
        obtain ⟨_, _, e, h1, h2, _⟩ := HS.out
        unfold maxLen at h2
        cases e
        simp at h1 ⊢
        exact ⟨h1, h2⟩
      have HN0 := Lib.hid hn0
      clear hn0
      go_wp2_with fail
      go_loopw [23] (fun i wr => ∃ k : Nat, k ≤ n0 ∧ i = .int .i64 k ∧ Hid (But kb wB wr ∧ Ext w wr ∧ MapB Try.prog 3 wr kb (known12 (c.seqs.take k) fun _ => 0))) (fun i _ => n0 - (intOf i).toNat)
      case atStart => exact ⟨0, by omega, rfl, Lib.hid ⟨But.refl _ _, H.out.2.2.2.1, H.out.2.2.2.2.2.2⟩⟩
      case round =>
        obtain ⟨k, hk, rfl, hI⟩ := hrel
        by_cases hlt : k < n0
        · have hkl : k < c.seqs.length := by rw [← HN0.out]; exact hlt
          obtain ⟨sb, so, hse, hx⟩ := (HS.out.below hI.out.2.1).at12 k hkl
          subst hse
          obtain ⟨z, hz⟩ : ∃ z, c.seqs[k] = z := ⟨_, rfl⟩
          have hzr : 0 ≤ z ∧ z ≤ 15 := by
            have := (Term.unlike_ok (Term.right_ok HR.out).2.2.2.2).1 c.seqs[k] (List.getElem_mem hkl)
            rw [hz] at this
            exact this
          have hno : Value.int .i64 z ∉ (known12 (c.seqs.take k) fun _ => 0).map (·.1) := known12_not fun hm => by
            have hnd := (Term.unlike_ok (Term.right_ok HR.out).2.2.2.2).2
            obtain ⟨i, hi, he⟩ := List.mem_iff_getElem.1 hm
            have hi' : i < k := by simp at hi; omega
            rw [List.getElem_take, ← hz] at he
            exact List.pairwise_iff_getElem.1 hnd i k (by omega) hkl hi' he
          obtain ⟨o1, hrun, hput⟩ := hI.out.2.2.put int12_keyed Try.underlying98 (int12_key (x := z) (by simp [Lit.wf, IntKind.min, IntKind.max, IntKind.signed, IntKind.bits]; omega)) hno (val := .int .i64 0)
          have hB1 := butBlock wr kb o1
          have HNX := Lib.hid (show But kb wB (setBlock wr kb o1) ∧ Ext w (setBlock wr kb o1) ∧ MapB Try.prog 3 (setBlock wr kb o1) kb (known12 (c.seqs.take (k + 1)) fun _ => 0) from ⟨hI.out.1.trans hB1, Ext.newQ11 hI.out.2.1 H.out.2.1 hB1, by
            have e : known12 (c.seqs.take (k + 1)) (fun _ => 0) = known12 (c.seqs.take k) (fun _ => 0) ++ [(.int .i64 z, .int .i64 0)] := by
              rw [List.take_succ_eq_append_getElem hkl, hz]
              simp [known12]
            rw [e]
            exact hput⟩)
          have hxr : wr.cell? ⟨x, 4, none⟩ = some (.map (some kb)) := (World.cell?_of_block (w := wB) (hI.out.1.block x (Array.getElem?_eq_some_iff.1 H.out.2.2.2.2.2.1).1 H.out.2.2.1)).trans x4
          rw [hz] at hx
          clear hz hzr hno hput hB1 hkl y1 x4
          go_wp2_with fail
          go_roundw
          case rel => exact ⟨k + 1, by omega, by go_num, HNX⟩
          case measure => simp [intOf]; omega
        · obtain rfl : k = n0 := by omega
          have hall : c.seqs.take k = c.seqs := List.take_of_length_le (by rw [← HN0.out]; exact Nat.le_refl _)
          rw [hall] at hI
          clear hall
          go_wp2_with fail
          go_ret2
          refine ⟨.inl ⟨x, HR.out, rfl, _, _, kb, .slice none 0 0, [], H.out.1, H.out.2.1, fun _ => Iff.rfl, fun _ => Iff.rfl, ⟨?_, World.ownsRow_nil _ _ _ _, rfl, fun q hq => (by cases hq), hI.out.2.2⟩, Quo.new_ok HR.out⟩, hI.out.2.1⟩
          have h1 := (hI.out.1.block x (Array.getElem?_eq_some_iff.1 H.out.2.2.2.2.2.1).1 H.out.2.2.1).trans H.out.2.2.2.2.2.1
          show wr.heap[x]? = some (Obj.cells #[.int .i64 c.term, .int .i64 (c.shards.length : Nat), .int .i64 (Term.majority c : Nat), .slice none 0 0, .map (some kb), .bool false] 100 (0, 0))
          rw [HTC.out, ← HLS.out, HN.out]
          exact h1
end Go.Proofs.Ytnoeconcpgdjlaa
