/-
  Merged: Layer 12: the document's sealer: HearSeal.
-/
import Derived.Test.YtnoeconcpgdjlaaBsQuK
import Derived.Test.YtnoeconcpgdjlaaBsQuS

namespace Go.Proofs.Ytnoeconcpgdjlaa
set_option linter.unusedSimpArgs false
set_option linter.unusedVariables false
set_option maxRecDepth 100000
open Go.RowKit
/- Layer 12: the document's sealer: HearSeal. -/
theorem tP12 : ElemN Try.prog 26 29 (.agg #[.int .i64 0, .slice none 0 0]) 2 32 := ⟨Try.underlying26, by kernel_rfl, rfl, by omega⟩
theorem box_part12 (w : World) (n : Int) (x : Value) (hx : ∃ a n c, x = .slice a n c) : (Instr.box 29 (.agg #[.int .i64 n, x])).run Try.prog w = .ok (.pointer (some ⟨w.heap.size, 0, none⟩)) (w.alloc (.cells #[.int .i64 n, x] 29)) := by
  obtain ⟨_, _, _, rfl⟩ := hx
  kernel_rfl
theorem partFlat_one {ps : List Part12} {w : World} (h : ∀ p ∈ ps, Ents w p.2.1 p.2.2) : ∀ y ∈ partFlat ps, y.oneCell' = true := fun y hy => by
  unfold partFlat at hy
  obtain ⟨p, hp, hy⟩ := List.mem_flatMap.1 hy
  obtain ⟨a, c, e, _⟩ := (h p hp).shape
  simp only [List.mem_cons, List.not_mem_nil, or_false] at hy
  rcases hy with rfl | rfl
  · rfl
  · rw [e]; rfl
theorem emptyRow12 (w : World) (T : TypeId) (size : Nat) : (w.alloc (.cells #[] T)).ownsRow w.heap.size T size (.slice (some ⟨w.heap.size, 0, none⟩) 0 0) 0 [] :=
  ⟨by simp, .inr ⟨_, 0, #[], rfl, Nat.le_refl _, heap_alloc_new w _, Nat.le_refl _, by simp [maxLen], by simp, by simp⟩⟩
/-- What HearSeal tells: the parts as they were, or one more, in a row of its own. -/
def GivesHear12 (w : World) (tc : Int) (sv dv pv : Value) (c : Term.C) (ps : List Part12) (n : Int) (xv : Value) (xl : List Ent.E) (e : Ending) (w' : World) : Prop :=
  ∃ pv' ps', e = .returned (.tuple #[.agg #[.int .i64 tc, sv, dv, pv'], .bool (Quo.Se.hears ⟨c, pparts ps⟩ n xl)]) ∧ (ps' = ps ∧ pv' = pv ∧ Quo.Se.hears ⟨c, pparts ps⟩ n xl = false ∨ ps' = ps ++ [(n, xv, xl)] ∧ Quo.Se.hears ⟨c, pparts ps⟩ n xl = true ∧ w'.ownsRow w.heap.size 29 2 pv' ps'.length (partFlat ps')) ∧ Ext w w'
set_option maxHeartbeats 40000000 in
theorem hearR12_any (tc0 : Int) (sv dv pv : Value) (c : Term.C) (ps : List Part12) (n : Int) (xv : Value) (xl : List Ent.E) (w : World) (htc0 : c.term = tc0) (hs : Ints w sv c.seqs) (hd : IRows w dv c.shards) (hp : Pts12 w pv ps) (hok : Quo.Se.Ok ⟨c, pparts ps⟩) (hx : Ents w xv xl) (hxl : xl.length ≤ 4611686018427387904) (hps : ps.length ≤ 1000) :
    Calls Try.prog 12 #[.agg #[.int .i64 tc0, sv, dv, pv], .agg #[.int .i64 n, xv]] w (GivesHear12 w tc0 sv dv pv c ps n xv xl) := by
  subst htc0
  have HOK := Lib.hid hok
  obtain ⟨s1, s2, s3, rfl⟩ := intsSlice hs
  obtain ⟨d1, d2, d3, rfl⟩ := irowsSlice hd
  obtain ⟨p1, p3, rfl, hp8, hp9⟩ := hp.open
  obtain ⟨x1, x3, rfl, hx4, hx5⟩ := hx.shape
  have hbx := fun w => box_seR12 w c.term (.slice s1 s2 s3) (.slice d1 d2 d3) (.slice p1 ps.length p3) ⟨_, _, _, rfl⟩ ⟨_, _, _, rfl⟩ ⟨_, _, _, rfl⟩
  have hby := fun w => box_part12 w n (.slice x1 xl.length x3) ⟨_, _, _, rfl⟩
  have HXV := Lib.hid (show (Value.slice x1 xl.length x3) = .slice x1 xl.length x3 from rfl)
  obtain ⟨L, hL⟩ : ∃ z, ps.length = z := ⟨_, rfl⟩
  obtain ⟨X, hX⟩ : ∃ z, xl.length = z := ⟨_, rfl⟩
  obtain ⟨tc, htc⟩ : ∃ z, c.term = z := ⟨_, rfl⟩
  rw [hL, htc] at hbx
  rw [hL] at hp8
  rw [hX] at hby hx4 hx
  rw [hL, htc, hX]
  obtain ⟨w0, hw0⟩ : ∃ z, (w.alloc (.cells #[.int .i64 tc, .slice s1 s2 s3, .slice d1 d2 d3, .slice p1 L p3] 39)).alloc (.cells #[.int .i64 n, .slice x1 X x3] 29) = z := ⟨_, rfl⟩
  obtain ⟨q, hq⟩ : ∃ z, w.heap.size = z := ⟨_, rfl⟩
  have hE0 : Ext w w0 := by rw [← hw0]; exact (Ext.alloc _ _).trans (Ext.alloc _ _)
  have hat0 : SeRAt12 w0 q tc (.slice s1 s2 s3) (.slice d1 d2 d3) (.slice p1 L p3) := by unfold SeRAt12; rw [← hw0, ← hq]; exact heap_ext (heap_alloc_new _ _) (Ext.alloc _ _)
  have hxa0 : w0.heap[q + 1]? = some (.cells #[.int .i64 n, .slice x1 X x3] 29 (0, 0)) := by
    rw [← hw0, ← hq, show w.heap.size + 1 = (w.alloc (.cells #[.int .i64 tc, .slice s1 s2 s3, .slice d1 d2 d3, .slice p1 L p3] 39)).heap.size from (World.size_alloc _ _).symm]
    exact heap_alloc_new _ _
  have HW0 := Lib.hid (And.intro hw0 (And.intro hE0 (And.intro hat0 hxa0)))
  have HQ := Lib.hid hq
  have HC := Lib.hid (show ∀ w', Ext w w' → Ints w' (.slice s1 s2 s3) c.seqs ∧ IRows w' (.slice d1 d2 d3) c.shards ∧ Pts12 w' (.slice p1 L p3) ps ∧ Ents w' (.slice x1 X x3) xl from fun w' h => ⟨hs.below h, hd.below h, by have := hp.below h; rw [hL] at this; exact this, hx.below h⟩)
  have HLL := Lib.hid (And.intro hL (And.intro hX htc))
  have HXL := Lib.hid (And.intro hxl hps)
  clear hok hs hd hp hx hL hX htc hw0 hq hE0 hat0 hxa0 hxl HXV
  go_enter Try.func12, Try.ntmps12
  go_upto_region 1 with (refine allocSeR12 (by rfl) rfl ?_; intro W1 q4 hat4 hE4 hq4)
  have hE4' := hE4.out
  have hq4' := hq4.out
  have hat4' := hat4.out
  rw [HW0.out.1] at hE4' hq4'
  rw [HQ.out]
  have HE := Lib.hid (HW0.out.2.1.trans hE4')
  have HAT := Lib.hid (HW0.out.2.2.1.ext hE4')
  have HXA := Lib.hid (heap_ext HW0.out.2.2.2 hE4')
  have HR4 := Lib.hid hat4'
  have HQ4 := Lib.hid (show w.heap.size ≤ q4 from by have := HW0.out.2.1.size; omega)
  have HQN := Lib.hid (show q + 1 < q4 by have h1 := hq4'; have h2 := (Array.getElem?_eq_some_iff.1 HW0.out.2.2.2).1; omega)
  have HQX : Hid (w.heap.size = q ∧ w.heap.size + 1 = q + 1) := Lib.hid ⟨HQ.out, by have := HQ.out; omega⟩
  have HNO := Lib.hid (show ∀ W5 w5, Ext w w5 → But q4 w5 W5 → Quo.Se.hears ⟨c, pparts ps⟩ n xl = false → GivesHear12 w tc (.slice s1 s2 s3) (.slice d1 d2 d3) (.slice p1 L p3) c ps n (.slice x1 X x3) xl (.returned (.tuple #[.agg #[.int .i64 tc, .slice s1 s2 s3, .slice d1 d2 d3, .slice p1 L p3], .bool false])) W5 from fun W5 w5 h1 h2 h3 =>
    ⟨_, ps, by rw [h3], .inl ⟨rfl, rfl, h3⟩, Ext.newQ11 h1 HQ4.out h2⟩)
  clear hbx hby hat4 hE4 hq4 hE4' hq4' hat4'
  have hnot : ¬ (n ∈ c.seqs ∧ Ent.chain xl = xl.length ∧ n ∉ (pparts ps).map (·.1)) → Quo.Se.hears ⟨c, pparts ps⟩ n xl = false := fun h => Quo.sehears_not (s := ⟨c, pparts ps⟩) h
  have HNOT := Lib.hid hnot
  clear hnot
  obtain ⟨hs', hhs⟩ : ∃ z, hasI c.seqs n = z := ⟨_, rfl⟩
  have HHS := Lib.hid hhs
  have HHAS := Lib.hid (show ∀ w', Ext W1 w' → Calls Try.prog 26 #[.slice s1 s2 s3, .int .i64 n] w' fun e w'' => e = .returned (.bool hs') ∧ Ext w' w'' from fun w' h => by
    have := refHas6_any (.slice s1 s2 s3) c.seqs n w' (HC.out w' (HE.out.trans h)).1
    rw [hhs] at this
    exact this.mono fun e w'' h => ⟨h.1, h.2 ▸ Ext.refl _⟩)
  clear hhs
  go_upto_region 1 with fail
  cases hs' with
  | false =>
    refine wp_region_facts (by kernel_rfl) Ext (fun iop v w => match iop with
        | 0 => v = .pointer (some ⟨q, 0, none⟩)
        | 1 => v = .pointer (some ⟨q, 1, none⟩)
        | 2 => v = .slice s1 s2 s3
        | 3 => v = .pointer (some ⟨q + 1, 0, none⟩)
        | 4 => v = .int .i64 n
        | 5 => v = .bool false
        | 6 => v = .bool true
        | 7 => v = .bool true
        | 8 => v = undef
        | 9 => v = undef
        | 10 => v = undef
        | 11 => v = undef
        | 12 => v = undef
        | 13 => v = undef
        | 14 => v = undef
        | _ => v = .bool true
        ) (by kernel_rfl) (fun _ _ _ h k => Ext.trans h k) (fun a => Ext.refl a) (Ext.drew _) ?_ ?_ ?_
    · intro iop v wa wb hF hL
      iterate 15 (rcases iop with _ | iop; exact hF)
      exact hF
    · refine Obls.cons ?_ (Obls.cons ?_ (Obls.cons ?_ (Obls.cons ?_ (Obls.cons ?_ (Obls.cons ?_ (Obls.cons ?_ (Obls.cons ?_ (Obls.cons ?_ (Obls.cons ?_ (Obls.cons ?_ (Obls.cons ?_ (Obls.cons ?_ (Obls.cons ?_ (Obls.cons ?_ (Obls.cons ?_ (Obls.nil))))))))))))))))
      · intro ev wy hp hl hk hd
        have e2 : ev (.tmp 2) = .pointer (some ⟨q, 0, none⟩) := hk 2 (by decide)
        clear hk hd
        exact Yield.op (v := .pointer (some ⟨q, 0, none⟩)) (w' := wy) (by simp [execOp, go_sem, e2]) ⟨Ext.refl _, rfl⟩
      · intro ev wy hp hl hk hd
        have e8 : ev (.tmp 8) = .pointer (some ⟨q, 0, none⟩) := hk 8 (by decide)
        clear hk hd
        exact Yield.op (v := .pointer (some ⟨q, 1, none⟩)) (w' := wy) (by simp [execOp, go_sem, e8]) ⟨Ext.refl _, rfl⟩
      · intro ev wy hp hl hk hd
        have e9 : ev (.tmp 9) = .pointer (some ⟨q, 1, none⟩) := hk 9 (by decide)
        clear hk hd
        exact Yield.load rfl e9 (by simp [go_sem, cell_of_heap (heap_ext HAT.out hl) 1]) ⟨Ext.refl _, rfl⟩
      · intro ev wy hp hl hk hd
        have e3 : ev (.tmp 3) = .pointer (some ⟨q + 1, 0, none⟩) := hk 3 (by decide)
        clear hk hd
        exact Yield.op (v := .pointer (some ⟨q + 1, 0, none⟩)) (w' := wy) (by simp [execOp, go_sem, e3]) ⟨Ext.refl _, rfl⟩
      · intro ev wy hp hl hk hd
        have e11 : ev (.tmp 11) = .pointer (some ⟨q + 1, 0, none⟩) := hk 11 (by decide)
        clear hk hd
        exact Yield.load rfl e11 (by simp [go_sem, cell_of_heap (heap_ext HXA.out hl) 0]) ⟨Ext.refl _, rfl⟩
      · intro ev wy hp hl hk hd
        have e10 : ev (.tmp 10) = .slice s1 s2 s3 := hk 10 (by decide)
        have e12 : ev (.tmp 12) = .int .i64 n := hk 12 (by decide)
        clear hk hd
        refine Yield.call rfl hp Try.func26 rfl (by kernel_rfl) ?_
        simp only [List.map_toArray, List.map_cons, List.map_nil, e10, e12]
        exact (HHAS.out wy hl).mono fun _ _ ⟨he, hb⟩ => ⟨_, he, hb, by first | rfl | simp⟩
      · intro ev wy hp hl hk hd
        have e13 : ev (.tmp 13) = .bool false := hk 13 (by decide)
        clear hk hd
        exact Yield.op (v := .bool true) (w' := wy) (by simp [execOp, go_sem, e13]) ⟨Ext.refl _, rfl⟩
      · intro ev wy hp hl hk hd
        have e14 : ev (.tmp 14) = .bool true := hk 14 (by decide)
        clear hk hd
        exact Yield.mv rfl ⟨Ext.refl _, e14⟩
      · intro ev wy hp hl hk hd
        have e3 : ev (.tmp 3) = .pointer (some ⟨q + 1, 0, none⟩) := hk 3 (by decide)
        clear hk
        exact ⟨fun x hx he => (by rw [show x = .bool true from hx] at he; cases he), fun _ _ _ => rfl⟩
      · intro ev wy hp hl hk hd
        have e16 : ev (.tmp 16) = undef := hk 16 (by decide)
        clear hk
        exact ⟨fun x hx he => (by rw [show x = .bool true from hx] at he; cases he), fun _ _ _ => rfl⟩
      · intro ev wy hp hl hk hd
        have e17 : ev (.tmp 17) = undef := hk 17 (by decide)
        clear hk
        exact ⟨fun x hx he => (by rw [show x = .bool true from hx] at he; cases he), fun _ _ _ => rfl⟩
      · intro ev wy hp hl hk hd
        have e3 : ev (.tmp 3) = .pointer (some ⟨q + 1, 0, none⟩) := hk 3 (by decide)
        clear hk
        exact ⟨fun x hx he => (by rw [show x = .bool true from hx] at he; cases he), fun _ _ _ => rfl⟩
      · intro ev wy hp hl hk hd
        have e19 : ev (.tmp 19) = undef := hk 19 (by decide)
        clear hk
        exact ⟨fun x hx he => (by rw [show x = .bool true from hx] at he; cases he), fun _ _ _ => rfl⟩
      · intro ev wy hp hl hk hd
        have e20 : ev (.tmp 20) = undef := hk 20 (by decide)
        clear hk
        exact ⟨fun x hx he => (by rw [show x = .bool true from hx] at he; cases he), fun _ _ _ => rfl⟩
      · intro ev wy hp hl hk hd
        have e18 : ev (.tmp 18) = undef := hk 18 (by decide)
        have e21 : ev (.tmp 21) = undef := hk 21 (by decide)
        clear hk
        exact ⟨fun x hx he => (by rw [show x = .bool true from hx] at he; cases he), fun _ _ _ => rfl⟩
      · intro ev wy hp hl hk hd
        have e15 : ev (.tmp 15) = .bool true := hk 15 (by decide)
        have e22 : ev (.tmp 22) = undef := hk 22 (by decide)
        clear hk hd
        exact Yield.pick (t := true) rfl e15 ⟨Ext.refl _, hp.const _⟩
    · intro vals wz hz hv
      have g8 : vals 0 = .pointer (some ⟨q, 0, none⟩) := hv 0 (by decide)
      have g9 : vals 1 = .pointer (some ⟨q, 1, none⟩) := hv 1 (by decide)
      have g10 : vals 2 = .slice s1 s2 s3 := hv 2 (by decide)
      have g11 : vals 3 = .pointer (some ⟨q + 1, 0, none⟩) := hv 3 (by decide)
      have g12 : vals 4 = .int .i64 n := hv 4 (by decide)
      have g13 : vals 5 = .bool false := hv 5 (by decide)
      have g14 : vals 6 = .bool true := hv 6 (by decide)
      have g15 : vals 7 = .bool true := hv 7 (by decide)
      have g16 : vals 8 = undef := hv 8 (by decide)
      have g17 : vals 9 = undef := hv 9 (by decide)
      have g18 : vals 10 = undef := hv 10 (by decide)
      have g19 : vals 11 = undef := hv 11 (by decide)
      have g20 : vals 12 = undef := hv 12 (by decide)
      have g21 : vals 13 = undef := hv 13 (by decide)
      have g22 : vals 14 = undef := hv 14 (by decide)
      have g23 : vals 15 = .bool true := hv 15 (by decide)
      clear hv
      simp only [putAll, Act.put, List.setIfInBounds_toArray, List.set_cons_zero, List.set_cons_succ, g8, g9, g10, g11, g12, g13, g14, g15, g16, g17, g18, g19, g20, g21, g22, g23]
      clear g8
      clear g9
      clear g10
      clear g11
      clear g12
      clear g13
      clear g14
      clear g15
      clear g16
      clear g17
      clear g18
      clear g19
      clear g20
      clear g21
      clear g22
      clear g23
      have HZ := Lib.hid hz
      clear hz
      have HSE := Lib.hid (HAT.out.ext HZ.out)
      have HRES := Lib.hid (HR4.out.ext HZ.out)
      go_wp2_with (first
        | (refine ldAny (by rfl) _ rfl rfl (HSE.out.ld ⟨_, _, _, rfl⟩ ⟨_, _, _, rfl⟩ ⟨_, _, _, rfl⟩) ?_)
        | (refine putSeR12 (by rfl) _ _ rfl rfl rfl HRES.out ⟨_, _, _, rfl⟩ ⟨_, _, _, rfl⟩ ⟨_, _, _, rfl⟩ ?_; intro W5 hat5 hB5))
      have hld := hat5.out.ldVar ⟨_, _, _, rfl⟩ ⟨_, _, _, rfl⟩ ⟨_, _, _, rfl⟩
      refine bodyPost_ret (v := .tuple #[.agg #[.int .i64 tc, .slice s1 s2 s3, .slice d1 d2 d3, .slice p1 L p3], .bool false]) (by simp [results, Try.results12, hld, asAddr, Act.put]) rfl ?_
      exact HNO.out _ _ (Ext.trans HE.out HZ.out) hB5.out (by exact HNOT.out fun h => by have h1 := HHS.out; unfold hasI at h1; rw [List.contains_iff_mem.2 h.1] at h1; cases h1)
  | true =>
  have HSQ := Lib.hid (show n ∈ c.seqs by have h1 := HHS.out; unfold hasI at h1; exact List.contains_iff_mem.1 h1)
  obtain ⟨CH, hCH⟩ : ∃ z, Ent.chain xl = z := ⟨_, rfl⟩
  have HCH := Lib.hid hCH
  have HCHN := Lib.hid (show ∀ w', Ext W1 w' → Calls Try.prog 34 #[.slice x1 X x3] w' fun e w'' => e = .returned (.int .i64 (CH : Nat)) ∧ Ext w' w'' from fun w' h => by
    have := refChain5_any (.slice x1 X x3) xl w' (HC.out w' (HE.out.trans h)).2.2.2 HXL.out.1
    rw [hCH] at this
    exact this)
  obtain ⟨ne, hne⟩ : ∃ z : Bool, ((CH : Int) != (X : Int)) = z := ⟨_, rfl⟩
  have HNE := Lib.hid hne
  clear hCH
  refine wp_region_facts (by kernel_rfl) Ext (fun iop v w => match iop with
      | 0 => v = .pointer (some ⟨q, 0, none⟩)
      | 1 => v = .pointer (some ⟨q, 1, none⟩)
      | 2 => v = .slice s1 s2 s3
      | 3 => v = .pointer (some ⟨q + 1, 0, none⟩)
      | 4 => v = .int .i64 n
      | 5 => v = .bool true
      | 6 => v = .bool false
      | 7 => v = .bool false
      | 8 => v = .pointer (some ⟨q + 1, 1, none⟩)
      | 9 => v = .slice x1 X x3
      | 10 => v = .int .i64 (CH : Nat)
      | 11 => v = .pointer (some ⟨q + 1, 1, none⟩)
      | 12 => v = .slice x1 X x3
      | 13 => v = .int .i64 (X : Nat)
      | 14 => v = .bool ne
      | _ => v = .bool ne
      ) (by kernel_rfl) (fun _ _ _ h k => Ext.trans h k) (fun a => Ext.refl a) (Ext.drew _) ?_ ?_ ?_
  · intro iop v wa wb hF hL
    iterate 15 (rcases iop with _ | iop; exact hF)
    exact hF
  · refine Obls.cons ?_ (Obls.cons ?_ (Obls.cons ?_ (Obls.cons ?_ (Obls.cons ?_ (Obls.cons ?_ (Obls.cons ?_ (Obls.cons ?_ (Obls.cons ?_ (Obls.cons ?_ (Obls.cons ?_ (Obls.cons ?_ (Obls.cons ?_ (Obls.cons ?_ (Obls.cons ?_ (Obls.cons ?_ (Obls.nil))))))))))))))))
    · intro ev wy hp hl hk hd
      have e2 : ev (.tmp 2) = .pointer (some ⟨q, 0, none⟩) := hk 2 (by decide)
      clear hk hd
      exact Yield.op (v := .pointer (some ⟨q, 0, none⟩)) (w' := wy) (by simp [execOp, go_sem, e2]) ⟨Ext.refl _, rfl⟩
    · intro ev wy hp hl hk hd
      have e8 : ev (.tmp 8) = .pointer (some ⟨q, 0, none⟩) := hk 8 (by decide)
      clear hk hd
      exact Yield.op (v := .pointer (some ⟨q, 1, none⟩)) (w' := wy) (by simp [execOp, go_sem, e8]) ⟨Ext.refl _, rfl⟩
    · intro ev wy hp hl hk hd
      have e9 : ev (.tmp 9) = .pointer (some ⟨q, 1, none⟩) := hk 9 (by decide)
      clear hk hd
      exact Yield.load rfl e9 (by simp [go_sem, cell_of_heap (heap_ext HAT.out hl) 1]) ⟨Ext.refl _, rfl⟩
    · intro ev wy hp hl hk hd
      have e3 : ev (.tmp 3) = .pointer (some ⟨q + 1, 0, none⟩) := hk 3 (by decide)
      clear hk hd
      exact Yield.op (v := .pointer (some ⟨q + 1, 0, none⟩)) (w' := wy) (by simp [execOp, go_sem, e3]) ⟨Ext.refl _, rfl⟩
    · intro ev wy hp hl hk hd
      have e11 : ev (.tmp 11) = .pointer (some ⟨q + 1, 0, none⟩) := hk 11 (by decide)
      clear hk hd
      exact Yield.load rfl e11 (by simp [go_sem, cell_of_heap (heap_ext HXA.out hl) 0]) ⟨Ext.refl _, rfl⟩
    · intro ev wy hp hl hk hd
      have e10 : ev (.tmp 10) = .slice s1 s2 s3 := hk 10 (by decide)
      have e12 : ev (.tmp 12) = .int .i64 n := hk 12 (by decide)
      clear hk hd
      refine Yield.call rfl hp Try.func26 rfl (by kernel_rfl) ?_
      simp only [List.map_toArray, List.map_cons, List.map_nil, e10, e12]
      exact (HHAS.out wy hl).mono fun _ _ ⟨he, hb⟩ => ⟨_, he, hb, by first | rfl | simp⟩
    · intro ev wy hp hl hk hd
      have e13 : ev (.tmp 13) = .bool true := hk 13 (by decide)
      clear hk hd
      exact Yield.op (v := .bool false) (w' := wy) (by simp [execOp, go_sem, e13]) ⟨Ext.refl _, rfl⟩
    · intro ev wy hp hl hk hd
      have e14 : ev (.tmp 14) = .bool false := hk 14 (by decide)
      clear hk hd
      exact Yield.mv rfl ⟨Ext.refl _, e14⟩
    · intro ev wy hp hl hk hd
      have e3 : ev (.tmp 3) = .pointer (some ⟨q + 1, 0, none⟩) := hk 3 (by decide)
      clear hk
      refine ⟨fun _ _ _ => ?_, fun _ hx hne => absurd hx hne⟩
      clear hd
      exact Yield.op (v := .pointer (some ⟨q + 1, 1, none⟩)) (w' := wy) (by simp [execOp, go_sem, e3]) ⟨Ext.refl _, rfl⟩
    · intro ev wy hp hl hk hd
      have e16 : ev (.tmp 16) = .pointer (some ⟨q + 1, 1, none⟩) := hk 16 (by decide)
      clear hk
      refine ⟨fun _ _ _ => ?_, fun _ hx hne => absurd hx hne⟩
      clear hd
      exact Yield.load rfl e16 (by simp [go_sem, cell_of_heap (heap_ext HXA.out hl) 1]) ⟨Ext.refl _, rfl⟩
    · intro ev wy hp hl hk hd
      have e17 : ev (.tmp 17) = .slice x1 X x3 := hk 17 (by decide)
      clear hk
      refine ⟨fun _ _ _ => ?_, fun _ hx hne => absurd hx hne⟩
      clear hd
      refine Yield.call rfl hp Try.func34 rfl (by kernel_rfl) ?_
      simp only [List.map_toArray, List.map_cons, List.map_nil, e17]
      exact (HCHN.out wy hl).mono fun _ _ ⟨he, hb⟩ => ⟨_, he, hb, by first | rfl | simp⟩
    · intro ev wy hp hl hk hd
      have e3 : ev (.tmp 3) = .pointer (some ⟨q + 1, 0, none⟩) := hk 3 (by decide)
      clear hk
      refine ⟨fun _ _ _ => ?_, fun _ hx hne => absurd hx hne⟩
      clear hd
      exact Yield.op (v := .pointer (some ⟨q + 1, 1, none⟩)) (w' := wy) (by simp [execOp, go_sem, e3]) ⟨Ext.refl _, rfl⟩
    · intro ev wy hp hl hk hd
      have e19 : ev (.tmp 19) = .pointer (some ⟨q + 1, 1, none⟩) := hk 19 (by decide)
      clear hk
      refine ⟨fun _ _ _ => ?_, fun _ hx hne => absurd hx hne⟩
      clear hd
      exact Yield.load rfl e19 (by simp [go_sem, cell_of_heap (heap_ext HXA.out hl) 1]) ⟨Ext.refl _, rfl⟩
    · intro ev wy hp hl hk hd
      have e20 : ev (.tmp 20) = .slice x1 X x3 := hk 20 (by decide)
      clear hk
      refine ⟨fun _ _ _ => ?_, fun _ hx hne => absurd hx hne⟩
      clear hd
      exact Yield.op (v := .int .i64 (X : Nat)) (w' := wy) (by simp [execOp, go_sem, e20]) ⟨Ext.refl _, rfl⟩
    · intro ev wy hp hl hk hd
      have e18 : ev (.tmp 18) = .int .i64 (CH : Nat) := hk 18 (by decide)
      have e21 : ev (.tmp 21) = .int .i64 (X : Nat) := hk 21 (by decide)
      clear hk
      refine ⟨fun _ _ _ => ?_, fun _ hx hne => absurd hx hne⟩
      clear hd
      exact Yield.op (v := .bool ne) (w' := wy) (by simp [execOp, go_sem, e18, e21]; rw [← hne]) ⟨Ext.refl _, rfl⟩
    · intro ev wy hp hl hk hd
      have e15 : ev (.tmp 15) = .bool false := hk 15 (by decide)
      have e22 : ev (.tmp 22) = .bool ne := hk 22 (by decide)
      clear hk hd
      exact Yield.pick (t := false) rfl e15 ⟨Ext.refl _, e22⟩
  · intro vals wz hz hv
    have g8 : vals 0 = .pointer (some ⟨q, 0, none⟩) := hv 0 (by decide)
    have g9 : vals 1 = .pointer (some ⟨q, 1, none⟩) := hv 1 (by decide)
    have g10 : vals 2 = .slice s1 s2 s3 := hv 2 (by decide)
    have g11 : vals 3 = .pointer (some ⟨q + 1, 0, none⟩) := hv 3 (by decide)
    have g12 : vals 4 = .int .i64 n := hv 4 (by decide)
    have g13 : vals 5 = .bool true := hv 5 (by decide)
    have g14 : vals 6 = .bool false := hv 6 (by decide)
    have g15 : vals 7 = .bool false := hv 7 (by decide)
    have g16 : vals 8 = .pointer (some ⟨q + 1, 1, none⟩) := hv 8 (by decide)
    have g17 : vals 9 = .slice x1 X x3 := hv 9 (by decide)
    have g18 : vals 10 = .int .i64 (CH : Nat) := hv 10 (by decide)
    have g19 : vals 11 = .pointer (some ⟨q + 1, 1, none⟩) := hv 11 (by decide)
    have g20 : vals 12 = .slice x1 X x3 := hv 12 (by decide)
    have g21 : vals 13 = .int .i64 (X : Nat) := hv 13 (by decide)
    have g22 : vals 14 = .bool ne := hv 14 (by decide)
    have g23 : vals 15 = .bool ne := hv 15 (by decide)
    clear hv
    simp only [putAll, Act.put, List.setIfInBounds_toArray, List.set_cons_zero, List.set_cons_succ, g8, g9, g10, g11, g12, g13, g14, g15, g16, g17, g18, g19, g20, g21, g22, g23]
    clear g8
    clear g9
    clear g10
    clear g11
    clear g12
    clear g13
    clear g14
    clear g15
    clear g16
    clear g17
    clear g18
    clear g19
    clear g20
    clear g21
    clear g22
    clear g23
    have HZ := Lib.hid hz
    clear hz hne
    cases ne with
    | true =>
      have HSE := Lib.hid (HAT.out.ext HZ.out)
      have HRES := Lib.hid (HR4.out.ext HZ.out)
      go_wp2_with (first
        | (refine ldAny (by rfl) _ rfl rfl (HSE.out.ld ⟨_, _, _, rfl⟩ ⟨_, _, _, rfl⟩ ⟨_, _, _, rfl⟩) ?_)
        | (refine putSeR12 (by rfl) _ _ rfl rfl rfl HRES.out ⟨_, _, _, rfl⟩ ⟨_, _, _, rfl⟩ ⟨_, _, _, rfl⟩ ?_; intro W5 hat5 hB5))
      have hld := hat5.out.ldVar ⟨_, _, _, rfl⟩ ⟨_, _, _, rfl⟩ ⟨_, _, _, rfl⟩
      refine bodyPost_ret (v := .tuple #[.agg #[.int .i64 tc, .slice s1 s2 s3, .slice d1 d2 d3, .slice p1 L p3], .bool false]) (by simp [results, Try.results12, hld, asAddr, Act.put]) rfl ?_
      exact HNO.out _ _ (Ext.trans HE.out HZ.out) hB5.out (by exact HNOT.out fun h => by have h1 := HNE.out; have h2 := HCH.out; have h3 := HLL.out.2.1; have h4 := h.2.1; simp at h1; omega)
    | false =>
    have HCX := Lib.hid (show Ent.chain xl = xl.length by
      have h1 := HNE.out
      have h2 := HCH.out
      have h3 := HLL.out.2.1
      simp at h1
      omega)
    have hnots : ∀ p ∈ ps, (p.1 = n ∨ Quo.agrees p.2.2 xl = false) → Quo.Se.hears ⟨c, pparts ps⟩ n xl = false := fun p hp h => by
      rcases h with h | h
      · refine HNOT.out fun e => e.2.2 ?_
        refine List.mem_map.2 ⟨(p.1, p.2.2), List.mem_map.2 ⟨p, hp, rfl⟩, h⟩
      · cases hh : Quo.Se.hears ⟨c, pparts ps⟩ n xl with
        | false => rfl
        | true =>
          exfalso
          unfold Quo.Se.hears at hh
          rw [Bool.and_eq_true] at hh
          have h1 := (Quo.agrees_all HOK.out xl).2 hh.2 (p.1, p.2.2) (List.mem_map.2 ⟨p, hp, rfl⟩)
          simp only at h1
          rw [h] at h1
          cases h1
    have HNOTS := Lib.hid hnots
    clear hnots
    go_wp2_with fail
    go_loopw [6] (fun i wr => ∃ k : Nat, k ≤ L ∧ i = .int .i64 k ∧ Hid (Ext W1 wr ∧ ∀ i, i < k → ∀ (h : i < ps.length), ps[i].1 ≠ n ∧ Quo.agrees ps[i].2.2 xl = true)) (fun i _ => L - (intOf i).toNat)
    case atStart => exact ⟨0, by omega, rfl, Lib.hid ⟨HZ.out, fun i h => absurd h (by omega)⟩⟩
    case round =>
      obtain ⟨k, hk, rfl, hI⟩ := hrel
      obtain ⟨wt, hwt⟩ : ∃ z, z = wr := ⟨_, rfl⟩
      subst hwt
      have y3 : wt.cell? ⟨q, 3, none⟩ = some (.slice p1 L p3) := cell_of_heap (HAT.out.ext hI.out.1) 3
      have Y3 := Lib.hid y3
      by_cases hlt : k < L
      · have hkl : k < ps.length := by rw [HLL.out.1]; exact hlt
        obtain ⟨pb, po, hp1, c0, c1⟩ := (HC.out wt (HE.out.trans hI.out.1)).2.2.1.at k hkl
        subst hp1
        have hpe := (HC.out wt (HE.out.trans hI.out.1)).2.2.1.2 ps[k] (List.getElem_mem hkl)
        have hmem : ps[k] ∈ ps := List.getElem_mem hkl
        obtain ⟨⟨pn, pv, pl⟩, hP⟩ : ∃ z, ps[k] = z := ⟨_, rfl⟩
        rw [hP] at c0 c1 hpe hmem
        simp only at c0 c1 hpe
        obtain ⟨v1, v3, rfl, _⟩ := hpe.shape
        obtain ⟨ag, hag⟩ : ∃ z, Quo.agrees pl xl = z := ⟨_, rfl⟩
        obtain ⟨VL, hVL⟩ : ∃ z, pl.length = z := ⟨_, rfl⟩
        rw [hVL] at c1 hpe hP hmem
        have HP := Lib.hid (And.intro hP (And.intro hmem hag))
        have C0 := Lib.hid c0
        have C1 := Lib.hid c1
        have HAG := Lib.hid (show ∀ w', Ext wt w' → Calls Try.prog 35 #[.slice v1 VL v3, .slice x1 X x3] w' fun e w'' => e = .returned (.bool ag) ∧ Ext w' w'' from fun w' h => by
          have := agrees12_any (.slice v1 VL v3) (.slice x1 X x3) pl xl w' (hpe.below h) (HC.out w' ((HE.out.trans hI.out.1).trans h)).2.2.2
          rw [hag] at this
          exact this)
        clear c0 c1 hpe hmem hP hag hVL
        go_upto_region 6 with fail
        by_cases hpn : pn = n
        case pos =>
          subst hpn
          refine wp_region_facts (by kernel_rfl) Ext (fun iop v w => match iop with
              | 0 => v = .pointer (some ⟨q, 3, none⟩)
              | 1 => v = .slice (some ⟨pb, po, none⟩) L p3
              | 2 => v = .int .i64 (k : Nat)
              | 3 => v = .pointer (some ⟨pb, po + k * 2, none⟩)
              | 4 => v = .pointer (some ⟨pb, po + k * 2, none⟩)
              | 5 => v = .int .i64 pn
              | 6 => v = .pointer (some ⟨q + 1, 0, none⟩)
              | 7 => v = .int .i64 pn
              | 8 => v = .bool true
              | 9 => v = .bool true
              | 10 => v = undef
              | 11 => v = undef
              | 12 => v = undef
              | 13 => v = undef
              | 14 => v = undef
              | 15 => v = undef
              | 16 => v = undef
              | 17 => v = undef
              | 18 => v = undef
              | 19 => v = undef
              | _ => v = .bool true
              ) (by kernel_rfl) (fun _ _ _ h k => Ext.trans h k) (fun a => Ext.refl a) (Ext.drew _) ?_ ?_ ?_
          · intro iop v wa wb hF hL
            iterate 20 (rcases iop with _ | iop; exact hF)
            exact hF
          · refine Obls.cons ?_ (Obls.cons ?_ (Obls.cons ?_ (Obls.cons ?_ (Obls.cons ?_ (Obls.cons ?_ (Obls.cons ?_ (Obls.cons ?_ (Obls.cons ?_ (Obls.cons ?_ (Obls.cons ?_ (Obls.cons ?_ (Obls.cons ?_ (Obls.cons ?_ (Obls.cons ?_ (Obls.cons ?_ (Obls.cons ?_ (Obls.cons ?_ (Obls.cons ?_ (Obls.cons ?_ (Obls.cons ?_ (Obls.nil)))))))))))))))))))))
            · intro ev wy hp hl hk hd
              have e2 : ev (.tmp 2) = .pointer (some ⟨q, 0, none⟩) := hk 2 (by decide)
              clear hk hd
              exact Yield.op (v := .pointer (some ⟨q, 3, none⟩)) (w' := wy) (by simp [execOp, go_sem, e2]) ⟨Ext.refl _, rfl⟩
            · intro ev wy hp hl hk hd
              have e32 : ev (.tmp 32) = .pointer (some ⟨q, 3, none⟩) := hk 32 (by decide)
              clear hk hd
              exact Yield.load rfl e32 (by simp [go_sem, cellE hl Y3.out]) ⟨Ext.refl _, rfl⟩
            · intro ev wy hp hl hk hd
              have e6 : ev (.tmp 6) = .int .i64 (k : Nat) := hk 6 (by decide)
              clear hk hd
              exact Yield.mv rfl ⟨Ext.refl _, e6⟩
            · intro ev wy hp hl hk hd
              have e33 : ev (.tmp 33) = .slice (some ⟨pb, po, none⟩) L p3 := hk 33 (by decide)
              have e34 : ev (.tmp 34) = .int .i64 (k : Nat) := hk 34 (by decide)
              clear hk hd
              exact Yield.op (v := .pointer (some ⟨pb, po + k * 2, none⟩)) (w' := wy) (by simp [execOp, go_sem, e33, e34, hlt]) ⟨Ext.refl _, rfl⟩
            · intro ev wy hp hl hk hd
              have e35 : ev (.tmp 35) = .pointer (some ⟨pb, po + k * 2, none⟩) := hk 35 (by decide)
              clear hk hd
              exact Yield.op (v := .pointer (some ⟨pb, po + k * 2, none⟩)) (w' := wy) (by simp [execOp, go_sem, e35]) ⟨Ext.refl _, rfl⟩
            · intro ev wy hp hl hk hd
              have e36 : ev (.tmp 36) = .pointer (some ⟨pb, po + k * 2, none⟩) := hk 36 (by decide)
              clear hk hd
              exact Yield.load rfl e36 (by simp [go_sem, cellE hl C0.out]) ⟨Ext.refl _, rfl⟩
            · intro ev wy hp hl hk hd
              have e3 : ev (.tmp 3) = .pointer (some ⟨q + 1, 0, none⟩) := hk 3 (by decide)
              clear hk hd
              exact Yield.op (v := .pointer (some ⟨q + 1, 0, none⟩)) (w' := wy) (by simp [execOp, go_sem, e3]) ⟨Ext.refl _, rfl⟩
            · intro ev wy hp hl hk hd
              have e38 : ev (.tmp 38) = .pointer (some ⟨q + 1, 0, none⟩) := hk 38 (by decide)
              clear hk hd
              exact Yield.load rfl e38 (by simp [go_sem, cell_of_heap (heap_ext HXA.out (hI.out.1.trans hl)) 0]) ⟨Ext.refl _, rfl⟩
            · intro ev wy hp hl hk hd
              have e37 : ev (.tmp 37) = .int .i64 pn := hk 37 (by decide)
              have e39 : ev (.tmp 39) = .int .i64 pn := hk 39 (by decide)
              clear hk hd
              exact Yield.op (v := .bool true) (w' := wy) (by simp [execOp, go_sem, e37, e39]) ⟨Ext.refl _, rfl⟩
            · intro ev wy hp hl hk hd
              have e40 : ev (.tmp 40) = .bool true := hk 40 (by decide)
              clear hk hd
              exact Yield.mv rfl ⟨Ext.refl _, e40⟩
            · intro ev wy hp hl hk hd
              have e2 : ev (.tmp 2) = .pointer (some ⟨q, 0, none⟩) := hk 2 (by decide)
              clear hk
              exact ⟨fun x hx he => (by rw [show x = .bool true from hx] at he; cases he), fun _ _ _ => rfl⟩
            · intro ev wy hp hl hk hd
              have e42 : ev (.tmp 42) = undef := hk 42 (by decide)
              clear hk
              exact ⟨fun x hx he => (by rw [show x = .bool true from hx] at he; cases he), fun _ _ _ => rfl⟩
            · intro ev wy hp hl hk hd
              have e6 : ev (.tmp 6) = .int .i64 (k : Nat) := hk 6 (by decide)
              clear hk
              exact ⟨fun x hx he => (by rw [show x = .bool true from hx] at he; cases he), fun _ _ _ => rfl⟩
            · intro ev wy hp hl hk hd
              have e43 : ev (.tmp 43) = undef := hk 43 (by decide)
              have e44 : ev (.tmp 44) = undef := hk 44 (by decide)
              clear hk
              exact ⟨fun x hx he => (by rw [show x = .bool true from hx] at he; cases he), fun _ _ _ => rfl⟩
            · intro ev wy hp hl hk hd
              have e45 : ev (.tmp 45) = undef := hk 45 (by decide)
              clear hk
              exact ⟨fun x hx he => (by rw [show x = .bool true from hx] at he; cases he), fun _ _ _ => rfl⟩
            · intro ev wy hp hl hk hd
              have e46 : ev (.tmp 46) = undef := hk 46 (by decide)
              clear hk
              exact ⟨fun x hx he => (by rw [show x = .bool true from hx] at he; cases he), fun _ _ _ => rfl⟩
            · intro ev wy hp hl hk hd
              have e3 : ev (.tmp 3) = .pointer (some ⟨q + 1, 0, none⟩) := hk 3 (by decide)
              clear hk
              exact ⟨fun x hx he => (by rw [show x = .bool true from hx] at he; cases he), fun _ _ _ => rfl⟩
            · intro ev wy hp hl hk hd
              have e48 : ev (.tmp 48) = undef := hk 48 (by decide)
              clear hk
              exact ⟨fun x hx he => (by rw [show x = .bool true from hx] at he; cases he), fun _ _ _ => rfl⟩
            · intro ev wy hp hl hk hd
              have e47 : ev (.tmp 47) = undef := hk 47 (by decide)
              have e49 : ev (.tmp 49) = undef := hk 49 (by decide)
              clear hk
              exact ⟨fun x hx he => (by rw [show x = .bool true from hx] at he; cases he), fun _ _ _ => rfl⟩
            · intro ev wy hp hl hk hd
              have e50 : ev (.tmp 50) = undef := hk 50 (by decide)
              clear hk
              exact ⟨fun x hx he => (by rw [show x = .bool true from hx] at he; cases he), fun _ _ _ => rfl⟩
            · intro ev wy hp hl hk hd
              have e41 : ev (.tmp 41) = .bool true := hk 41 (by decide)
              have e51 : ev (.tmp 51) = undef := hk 51 (by decide)
              clear hk hd
              exact Yield.pick (t := true) rfl e41 ⟨Ext.refl _, hp.const _⟩
          · intro vals wz hz hv
            have g32 : vals 0 = .pointer (some ⟨q, 3, none⟩) := hv 0 (by decide)
            have g33 : vals 1 = .slice (some ⟨pb, po, none⟩) L p3 := hv 1 (by decide)
            have g34 : vals 2 = .int .i64 (k : Nat) := hv 2 (by decide)
            have g35 : vals 3 = .pointer (some ⟨pb, po + k * 2, none⟩) := hv 3 (by decide)
            have g36 : vals 4 = .pointer (some ⟨pb, po + k * 2, none⟩) := hv 4 (by decide)
            have g37 : vals 5 = .int .i64 pn := hv 5 (by decide)
            have g38 : vals 6 = .pointer (some ⟨q + 1, 0, none⟩) := hv 6 (by decide)
            have g39 : vals 7 = .int .i64 pn := hv 7 (by decide)
            have g40 : vals 8 = .bool true := hv 8 (by decide)
            have g41 : vals 9 = .bool true := hv 9 (by decide)
            have g42 : vals 10 = undef := hv 10 (by decide)
            have g43 : vals 11 = undef := hv 11 (by decide)
            have g44 : vals 12 = undef := hv 12 (by decide)
            have g45 : vals 13 = undef := hv 13 (by decide)
            have g46 : vals 14 = undef := hv 14 (by decide)
            have g47 : vals 15 = undef := hv 15 (by decide)
            have g48 : vals 16 = undef := hv 16 (by decide)
            have g49 : vals 17 = undef := hv 17 (by decide)
            have g50 : vals 18 = undef := hv 18 (by decide)
            have g51 : vals 19 = undef := hv 19 (by decide)
            have g52 : vals 20 = .bool true := hv 20 (by decide)
            clear hv
            simp only [putAll, Act.put, List.setIfInBounds_toArray, List.set_cons_zero, List.set_cons_succ, g32, g33, g34, g35, g36, g37, g38, g39, g40, g41, g42, g43, g44, g45, g46, g47, g48, g49, g50, g51, g52]
            clear g32
            clear g33
            clear g34
            clear g35
            clear g36
            clear g37
            clear g38
            clear g39
            clear g40
            clear g41
            clear g42
            clear g43
            clear g44
            clear g45
            clear g46
            clear g47
            clear g48
            clear g49
            clear g50
            clear g51
            clear g52
            have HZ6 := Lib.hid (hI.out.1.trans hz)
            clear hz y3
            have HSE := Lib.hid (HAT.out.ext HZ6.out)
            have HRES := Lib.hid (HR4.out.ext HZ6.out)
            go_wp2_with (first
              | (refine ldAny (by rfl) _ rfl rfl (HSE.out.ld ⟨_, _, _, rfl⟩ ⟨_, _, _, rfl⟩ ⟨_, _, _, rfl⟩) ?_)
              | (refine putSeR12 (by rfl) _ _ rfl rfl rfl HRES.out ⟨_, _, _, rfl⟩ ⟨_, _, _, rfl⟩ ⟨_, _, _, rfl⟩ ?_; intro W5 hat5 hB5))
            have hld := hat5.out.ldVar ⟨_, _, _, rfl⟩ ⟨_, _, _, rfl⟩ ⟨_, _, _, rfl⟩
            refine bodyPost_ret (v := .tuple #[.agg #[.int .i64 tc, .slice s1 s2 s3, .slice d1 d2 d3, .slice (some ⟨pb, po, none⟩) L p3], .bool false]) (by simp [results, Try.results12, hld, asAddr, Act.put]) rfl ?_
            exact HNO.out _ _ (Ext.trans HE.out HZ6.out) hB5.out (by exact HNOTS.out _ HP.out.2.1 (.inl rfl))
        case neg =>
          refine wp_region_facts (by kernel_rfl) Ext (fun iop v w => match iop with
              | 0 => v = .pointer (some ⟨q, 3, none⟩)
              | 1 => v = .slice (some ⟨pb, po, none⟩) L p3
              | 2 => v = .int .i64 (k : Nat)
              | 3 => v = .pointer (some ⟨pb, po + k * 2, none⟩)
              | 4 => v = .pointer (some ⟨pb, po + k * 2, none⟩)
              | 5 => v = .int .i64 pn
              | 6 => v = .pointer (some ⟨q + 1, 0, none⟩)
              | 7 => v = .int .i64 n
              | 8 => v = .bool false
              | 9 => v = .bool false
              | 10 => v = .pointer (some ⟨q, 3, none⟩)
              | 11 => v = .slice (some ⟨pb, po, none⟩) L p3
              | 12 => v = .int .i64 (k : Nat)
              | 13 => v = .pointer (some ⟨pb, po + k * 2, none⟩)
              | 14 => v = .pointer (some ⟨pb, po + k * 2 + 1, none⟩)
              | 15 => v = .slice v1 VL v3
              | 16 => v = .pointer (some ⟨q + 1, 1, none⟩)
              | 17 => v = .slice x1 X x3
              | 18 => v = .bool ag
              | 19 => v = .bool (!ag)
              | _ => v = .bool (!ag)
              ) (by kernel_rfl) (fun _ _ _ h k => Ext.trans h k) (fun a => Ext.refl a) (Ext.drew _) ?_ ?_ ?_
          · intro iop v wa wb hF hL
            iterate 20 (rcases iop with _ | iop; exact hF)
            exact hF
          · refine Obls.cons ?_ (Obls.cons ?_ (Obls.cons ?_ (Obls.cons ?_ (Obls.cons ?_ (Obls.cons ?_ (Obls.cons ?_ (Obls.cons ?_ (Obls.cons ?_ (Obls.cons ?_ (Obls.cons ?_ (Obls.cons ?_ (Obls.cons ?_ (Obls.cons ?_ (Obls.cons ?_ (Obls.cons ?_ (Obls.cons ?_ (Obls.cons ?_ (Obls.cons ?_ (Obls.cons ?_ (Obls.cons ?_ (Obls.nil)))))))))))))))))))))
            · intro ev wy hp hl hk hd
              have e2 : ev (.tmp 2) = .pointer (some ⟨q, 0, none⟩) := hk 2 (by decide)
              clear hk hd
              exact Yield.op (v := .pointer (some ⟨q, 3, none⟩)) (w' := wy) (by simp [execOp, go_sem, e2]) ⟨Ext.refl _, rfl⟩
            · intro ev wy hp hl hk hd
              have e32 : ev (.tmp 32) = .pointer (some ⟨q, 3, none⟩) := hk 32 (by decide)
              clear hk hd
              exact Yield.load rfl e32 (by simp [go_sem, cellE hl Y3.out]) ⟨Ext.refl _, rfl⟩
            · intro ev wy hp hl hk hd
              have e6 : ev (.tmp 6) = .int .i64 (k : Nat) := hk 6 (by decide)
              clear hk hd
              exact Yield.mv rfl ⟨Ext.refl _, e6⟩
            · intro ev wy hp hl hk hd
              have e33 : ev (.tmp 33) = .slice (some ⟨pb, po, none⟩) L p3 := hk 33 (by decide)
              have e34 : ev (.tmp 34) = .int .i64 (k : Nat) := hk 34 (by decide)
              clear hk hd
              exact Yield.op (v := .pointer (some ⟨pb, po + k * 2, none⟩)) (w' := wy) (by simp [execOp, go_sem, e33, e34, hlt]) ⟨Ext.refl _, rfl⟩
            · intro ev wy hp hl hk hd
              have e35 : ev (.tmp 35) = .pointer (some ⟨pb, po + k * 2, none⟩) := hk 35 (by decide)
              clear hk hd
              exact Yield.op (v := .pointer (some ⟨pb, po + k * 2, none⟩)) (w' := wy) (by simp [execOp, go_sem, e35]) ⟨Ext.refl _, rfl⟩
            · intro ev wy hp hl hk hd
              have e36 : ev (.tmp 36) = .pointer (some ⟨pb, po + k * 2, none⟩) := hk 36 (by decide)
              clear hk hd
              exact Yield.load rfl e36 (by simp [go_sem, cellE hl C0.out]) ⟨Ext.refl _, rfl⟩
            · intro ev wy hp hl hk hd
              have e3 : ev (.tmp 3) = .pointer (some ⟨q + 1, 0, none⟩) := hk 3 (by decide)
              clear hk hd
              exact Yield.op (v := .pointer (some ⟨q + 1, 0, none⟩)) (w' := wy) (by simp [execOp, go_sem, e3]) ⟨Ext.refl _, rfl⟩
            · intro ev wy hp hl hk hd
              have e38 : ev (.tmp 38) = .pointer (some ⟨q + 1, 0, none⟩) := hk 38 (by decide)
              clear hk hd
              exact Yield.load rfl e38 (by simp [go_sem, cell_of_heap (heap_ext HXA.out (hI.out.1.trans hl)) 0]) ⟨Ext.refl _, rfl⟩
            · intro ev wy hp hl hk hd
              have e37 : ev (.tmp 37) = .int .i64 pn := hk 37 (by decide)
              have e39 : ev (.tmp 39) = .int .i64 n := hk 39 (by decide)
              clear hk hd
              exact Yield.op (v := .bool false) (w' := wy) (by simp [execOp, go_sem, e37, e39, hpn]) ⟨Ext.refl _, rfl⟩
            · intro ev wy hp hl hk hd
              have e40 : ev (.tmp 40) = .bool false := hk 40 (by decide)
              clear hk hd
              exact Yield.mv rfl ⟨Ext.refl _, e40⟩
            · intro ev wy hp hl hk hd
              have e2 : ev (.tmp 2) = .pointer (some ⟨q, 0, none⟩) := hk 2 (by decide)
              clear hk
              refine ⟨fun _ _ _ => ?_, fun _ hx hne => absurd hx hne⟩
              clear hd
              exact Yield.op (v := .pointer (some ⟨q, 3, none⟩)) (w' := wy) (by simp [execOp, go_sem, e2]) ⟨Ext.refl _, rfl⟩
            · intro ev wy hp hl hk hd
              have e42 : ev (.tmp 42) = .pointer (some ⟨q, 3, none⟩) := hk 42 (by decide)
              clear hk
              refine ⟨fun _ _ _ => ?_, fun _ hx hne => absurd hx hne⟩
              clear hd
              exact Yield.load rfl e42 (by simp [go_sem, cellE hl Y3.out]) ⟨Ext.refl _, rfl⟩
            · intro ev wy hp hl hk hd
              have e6 : ev (.tmp 6) = .int .i64 (k : Nat) := hk 6 (by decide)
              clear hk
              refine ⟨fun _ _ _ => ?_, fun _ hx hne => absurd hx hne⟩
              clear hd
              exact Yield.mv rfl ⟨Ext.refl _, e6⟩
            · intro ev wy hp hl hk hd
              have e43 : ev (.tmp 43) = .slice (some ⟨pb, po, none⟩) L p3 := hk 43 (by decide)
              have e44 : ev (.tmp 44) = .int .i64 (k : Nat) := hk 44 (by decide)
              clear hk
              refine ⟨fun _ _ _ => ?_, fun _ hx hne => absurd hx hne⟩
              clear hd
              exact Yield.op (v := .pointer (some ⟨pb, po + k * 2, none⟩)) (w' := wy) (by simp [execOp, go_sem, e43, e44, hlt]) ⟨Ext.refl _, rfl⟩
            · intro ev wy hp hl hk hd
              have e45 : ev (.tmp 45) = .pointer (some ⟨pb, po + k * 2, none⟩) := hk 45 (by decide)
              clear hk
              refine ⟨fun _ _ _ => ?_, fun _ hx hne => absurd hx hne⟩
              clear hd
              exact Yield.op (v := .pointer (some ⟨pb, po + k * 2 + 1, none⟩)) (w' := wy) (by simp [execOp, go_sem, e45]) ⟨Ext.refl _, rfl⟩
            · intro ev wy hp hl hk hd
              have e46 : ev (.tmp 46) = .pointer (some ⟨pb, po + k * 2 + 1, none⟩) := hk 46 (by decide)
              clear hk
              refine ⟨fun _ _ _ => ?_, fun _ hx hne => absurd hx hne⟩
              clear hd
              exact Yield.load rfl e46 (by simp [go_sem, cellE hl C1.out]) ⟨Ext.refl _, rfl⟩
            · intro ev wy hp hl hk hd
              have e3 : ev (.tmp 3) = .pointer (some ⟨q + 1, 0, none⟩) := hk 3 (by decide)
              clear hk
              refine ⟨fun _ _ _ => ?_, fun _ hx hne => absurd hx hne⟩
              clear hd
              exact Yield.op (v := .pointer (some ⟨q + 1, 1, none⟩)) (w' := wy) (by simp [execOp, go_sem, e3]) ⟨Ext.refl _, rfl⟩
            · intro ev wy hp hl hk hd
              have e48 : ev (.tmp 48) = .pointer (some ⟨q + 1, 1, none⟩) := hk 48 (by decide)
              clear hk
              refine ⟨fun _ _ _ => ?_, fun _ hx hne => absurd hx hne⟩
              clear hd
              exact Yield.load rfl e48 (by simp [go_sem, cell_of_heap (heap_ext HXA.out (hI.out.1.trans hl)) 1]) ⟨Ext.refl _, rfl⟩
            · intro ev wy hp hl hk hd
              have e47 : ev (.tmp 47) = .slice v1 VL v3 := hk 47 (by decide)
              have e49 : ev (.tmp 49) = .slice x1 X x3 := hk 49 (by decide)
              clear hk
              refine ⟨fun _ _ _ => ?_, fun _ hx hne => absurd hx hne⟩
              clear hd
              refine Yield.call rfl hp Try.func35 rfl (by kernel_rfl) ?_
              simp only [List.map_toArray, List.map_cons, List.map_nil, e47, e49]
              exact (HAG.out wy hl).mono fun _ _ ⟨he, hb⟩ => ⟨_, he, hb, by first | rfl | simp⟩
            · intro ev wy hp hl hk hd
              have e50 : ev (.tmp 50) = .bool ag := hk 50 (by decide)
              clear hk
              refine ⟨fun _ _ _ => ?_, fun _ hx hne => absurd hx hne⟩
              clear hd
              exact Yield.op (v := .bool (!ag)) (w' := wy) (by simp [execOp, go_sem, e50]) ⟨Ext.refl _, rfl⟩
            · intro ev wy hp hl hk hd
              have e41 : ev (.tmp 41) = .bool false := hk 41 (by decide)
              have e51 : ev (.tmp 51) = .bool (!ag) := hk 51 (by decide)
              clear hk hd
              exact Yield.pick (t := false) rfl e41 ⟨Ext.refl _, e51⟩
          · intro vals wz hz hv
            have g32 : vals 0 = .pointer (some ⟨q, 3, none⟩) := hv 0 (by decide)
            have g33 : vals 1 = .slice (some ⟨pb, po, none⟩) L p3 := hv 1 (by decide)
            have g34 : vals 2 = .int .i64 (k : Nat) := hv 2 (by decide)
            have g35 : vals 3 = .pointer (some ⟨pb, po + k * 2, none⟩) := hv 3 (by decide)
            have g36 : vals 4 = .pointer (some ⟨pb, po + k * 2, none⟩) := hv 4 (by decide)
            have g37 : vals 5 = .int .i64 pn := hv 5 (by decide)
            have g38 : vals 6 = .pointer (some ⟨q + 1, 0, none⟩) := hv 6 (by decide)
            have g39 : vals 7 = .int .i64 n := hv 7 (by decide)
            have g40 : vals 8 = .bool false := hv 8 (by decide)
            have g41 : vals 9 = .bool false := hv 9 (by decide)
            have g42 : vals 10 = .pointer (some ⟨q, 3, none⟩) := hv 10 (by decide)
            have g43 : vals 11 = .slice (some ⟨pb, po, none⟩) L p3 := hv 11 (by decide)
            have g44 : vals 12 = .int .i64 (k : Nat) := hv 12 (by decide)
            have g45 : vals 13 = .pointer (some ⟨pb, po + k * 2, none⟩) := hv 13 (by decide)
            have g46 : vals 14 = .pointer (some ⟨pb, po + k * 2 + 1, none⟩) := hv 14 (by decide)
            have g47 : vals 15 = .slice v1 VL v3 := hv 15 (by decide)
            have g48 : vals 16 = .pointer (some ⟨q + 1, 1, none⟩) := hv 16 (by decide)
            have g49 : vals 17 = .slice x1 X x3 := hv 17 (by decide)
            have g50 : vals 18 = .bool ag := hv 18 (by decide)
            have g51 : vals 19 = .bool (!ag) := hv 19 (by decide)
            have g52 : vals 20 = .bool (!ag) := hv 20 (by decide)
            clear hv
            simp only [putAll, Act.put, List.setIfInBounds_toArray, List.set_cons_zero, List.set_cons_succ, g32, g33, g34, g35, g36, g37, g38, g39, g40, g41, g42, g43, g44, g45, g46, g47, g48, g49, g50, g51, g52]
            clear g32
            clear g33
            clear g34
            clear g35
            clear g36
            clear g37
            clear g38
            clear g39
            clear g40
            clear g41
            clear g42
            clear g43
            clear g44
            clear g45
            clear g46
            clear g47
            clear g48
            clear g49
            clear g50
            clear g51
            clear g52
            have HZ6 := Lib.hid (hI.out.1.trans hz)
            clear hz y3
            cases ag with
            | false =>
              have HSE := Lib.hid (HAT.out.ext HZ6.out)
              have HRES := Lib.hid (HR4.out.ext HZ6.out)
              go_wp2_with (first
                | (refine ldAny (by rfl) _ rfl rfl (HSE.out.ld ⟨_, _, _, rfl⟩ ⟨_, _, _, rfl⟩ ⟨_, _, _, rfl⟩) ?_)
                | (refine putSeR12 (by rfl) _ _ rfl rfl rfl HRES.out ⟨_, _, _, rfl⟩ ⟨_, _, _, rfl⟩ ⟨_, _, _, rfl⟩ ?_; intro W5 hat5 hB5))
              have hld := hat5.out.ldVar ⟨_, _, _, rfl⟩ ⟨_, _, _, rfl⟩ ⟨_, _, _, rfl⟩
              refine bodyPost_ret (v := .tuple #[.agg #[.int .i64 tc, .slice s1 s2 s3, .slice d1 d2 d3, .slice (some ⟨pb, po, none⟩) L p3], .bool false]) (by simp [results, Try.results12, hld, asAddr, Act.put]) rfl ?_
              exact HNO.out _ _ (Ext.trans HE.out HZ6.out) hB5.out (by exact HNOTS.out _ HP.out.2.1 (.inr HP.out.2.2))
            | true =>
              have HNX := Lib.hid (show Ext W1 wz ∧ ∀ i, i < k + 1 → ∀ (h : i < ps.length), ps[i].1 ≠ n ∧ Quo.agrees ps[i].2.2 xl = true from ⟨HZ6.out, fun i hi h => by
                rcases Nat.lt_or_ge i k with h1 | h1
                · exact hI.out.2 i h1 h
                · obtain rfl : i = k := by omega
                  have h2 : ps[i] = (pn, .slice v1 VL v3, pl) := HP.out.1
                  rw [h2]
                  exact ⟨hpn, HP.out.2.2⟩⟩)
              go_wp2_with fail
              go_roundw
              case rel => exact ⟨k + 1, by omega, by go_num, HNX⟩
              case measure => simp [intOf]; omega
      · obtain rfl : k = L := by omega
        have hyes : Quo.Se.hears ⟨c, pparts ps⟩ n xl = true := by
          unfold Quo.Se.hears
          rw [Bool.and_eq_true, decide_eq_true_eq]
          refine ⟨⟨HSQ.out, HCX.out, fun hm => ?_⟩, (Quo.agrees_all HOK.out xl).1 fun p hp => ?_⟩
          · obtain ⟨p, hp, he⟩ := List.mem_map.1 hm
            obtain ⟨p2, hp2, rfl⟩ := List.mem_map.1 hp
            obtain ⟨i, hi, rfl⟩ := List.getElem_of_mem hp2
            exact (hI.out.2 i (by rw [← HLL.out.1]; exact hi) hi).1 he
          · obtain ⟨p2, hp2, rfl⟩ := List.mem_map.1 hp
            obtain ⟨i, hi, rfl⟩ := List.getElem_of_mem hp2
            exact (hI.out.2 i (by rw [← HLL.out.1]; exact hi) hi).2
        have HYES := Lib.hid hyes
        have hE8 : Ext wt (wt.alloc (.cells #[] 29)) := Ext.alloc _ _
        have y38 := cellE hE8 y3
        have hrow8 := emptyRow12 wt 29 2
        obtain ⟨w8, hw8⟩ : ∃ z, wt.alloc (.cells #[] 29) = z := ⟨_, rfl⟩
        have HW8 := Lib.hid hw8
        have hz8 : wt.heap.size ≤ w8.heap.size := by rw [← hw8]; exact (Ext.alloc _ _).size
        rw [hw8] at hE8 hrow8
        have HE8 := Lib.hid (hI.out.1.trans hE8)
        have hP8 := (HC.out w8 (HE.out.trans HE8.out)).2.2.1
        have hsl8 := hP8.1
        rw [HLL.out.1] at hsl8
        have hone8 := partFlat_one hP8.2
        have HSL8 := Lib.hid hsl8
        have HONE8 := Lib.hid hone8
        have HROW8 := Lib.hid hrow8
        have hk1 : 0 + k ≤ maxLen := by have := HXL.out.2; have := HLL.out.1; unfold maxLen; omega
        have hk2 : (0 + k) * 32 ≤ 140737488355328 := by have := HXL.out.2; have := HLL.out.1; omega
        have HK := Lib.hid (And.intro hk1 hk2)
        have te := tP12
        clear hyes hw8 hE8 hrow8 hP8 hsl8 hone8 hk1 hk2
        go_upto_region 9 with (at_builtin; rw [HW8.out]; refine wpList_appN rfl (.tmp 54) (.tmp 56) te rfl rfl rfl HROW8.out HSL8.out HONE8.out HK.out.1 HK.out.2 hz8 ?_; intro v9 w9 hown9 hg9)
        have hap : partFlat ps ++ [] = partFlat ps := List.append_nil _
        obtain ⟨a9, n9, c9, rfl⟩ := ownSlice hown9
        have hE9 : Ext wt w9 := by
          have h1 : Ext wt w8 := by rw [← HW8.out]; exact Ext.alloc _ _
          exact Below.grown h1 hg9 h1.size (fun j hj => by cases hj; exact Nat.le_refl _)
        have hown9' : w9.ownsRow wt.heap.size 29 2 (.slice a9 n9 c9) (0 + k) (partFlat ps) := hown9
        have HE9 := Lib.hid (hI.out.1.trans hE9)
        have HOWN9 := Lib.hid hown9'
        have hE10 : Ext w9 (w9.alloc (.cells #[.int .i64 n, .slice x1 X x3] 29)) := Ext.alloc _ _
        have hsl10 : SlN 2 (w9.alloc (.cells #[.int .i64 n, .slice x1 X x3] 29)) (.slice (some ⟨w9.heap.size, 0, none⟩) 1 1) 1 (partFlat [(n, .slice x1 X x3, xl)]) := SlN.ofOwn (base := w9.heap.size) (e := 29) ⟨by simp [partFlat], .inr ⟨_, 1, _, rfl, Nat.le_refl _, heap_alloc_new w9 _, Nat.le_refl _, by simp [maxLen], by simp, by rfl⟩⟩
        have hx9 := heap_ext HXA.out HE9.out
        have hq39 := HAT.out.ext HE9.out
        have g0 : w9.cell? ⟨q + 1, 0, none⟩ = some (.int .i64 n) := cell_of_heap hx9 0
        have g1 : w9.cell? ⟨q + 1, 1, none⟩ = some (.slice x1 X x3) := cell_of_heap hx9 1
        obtain ⟨w10, hw10⟩ : ∃ z, w9.alloc (.cells #[.int .i64 n, .slice x1 X x3] 29) = z := ⟨_, rfl⟩
        have HW10 := Lib.hid hw10
        have HE10 : Hid (Ext w9 w10) := Lib.hid (by rw [← hw10]; exact hE10)
        rw [hw10] at hsl10
        have hrow10 : w10.ownsRow wt.heap.size 29 2 (.slice a9 n9 c9) (0 + k) (partFlat ps) := rowExt hown9' HE10.out
        have HROW10 := Lib.hid hrow10
        have HSL10 := Lib.hid hsl10
        have hone10 : ∀ y ∈ partFlat [(n, Value.slice x1 X x3, xl)], y.oneCell' = true := partFlat_one (w := w9) (by intro p hp; obtain rfl := List.mem_singleton.1 hp; exact (HC.out w9 (HE.out.trans HE9.out)).2.2.2)
        have HONE10 := Lib.hid hone10
        have hz10 : wt.heap.size ≤ w10.heap.size := Nat.le_trans hE9.size HE10.out.size
        have hk3 : 0 + k + 1 ≤ maxLen := by have := HXL.out.2; have := HLL.out.1; unfold maxLen; omega
        have hk4 : (0 + k + 1) * 32 ≤ 140737488355328 := by have := HXL.out.2; have := HLL.out.1; omega
        have HK2 := Lib.hid (And.intro hk3 hk4)
        have HZ10 := Lib.hid hz10
        have HT10 := Lib.hid (hE9.trans HE10.out)
        clear hap hown9 hg9 hE9 hown9' hE10 hsl10 hx9 hw10 hrow10 hone10 hz10 hk3 hk4 y38 y3
        go_upto_region 10 with (at_builtin; rw [HW10.out]; refine wpList_appN rfl (.tmp 58) (.tmp 60) te rfl rfl rfl HROW10.out HSL10.out HONE10.out HK2.out.1 HK2.out.2 HZ10.out ?_; intro v11 w11 hown11 hg11; obtain ⟨a11, n11, c11, rfl⟩ := ownSlice hown11; have hE11 : Ext wt w11 := Below.grown HT10.out hg11 HZ10.out (fun j hj => (HROW10.out.lt j hj).1); have hq11 := HAT.out.ext (hI.out.1.trans hE11); have f3 := frozen_of_heap hq11 3; have d3' := cell_of_heap hq11 3; simp at d3')
        have hn11 := ownLen hown11
        have hB12 : But q w11 (w11.setCell ⟨q, 3, none⟩ (.slice a11 n11 c11)) := butSet _ _ _ _
        have hat12 : SeRAt12 (w11.setCell ⟨q, 3, none⟩ (.slice a11 n11 c11)) q tc (.slice s1 s2 s3) (.slice d1 d2 d3) (.slice a11 n11 c11) := heap_setCell hq11 3 (.slice a11 n11 c11)
        obtain ⟨w12, hw12⟩ : ∃ z, w11.setCell ⟨q, 3, none⟩ (.slice a11 n11 c11) = z := ⟨_, rfl⟩
        rw [hw12] at hB12 hat12 ⊢
        have hqW : w.heap.size ≤ q := Nat.le_of_eq HQ.out
        have HE11 := Lib.hid (HE.out.trans (hI.out.1.trans hE11))
        have HE12 := Lib.hid (Ext.newQ11 HE11.out hqW hB12)
        have hrow12 : w12.ownsRow wt.heap.size 29 2 (.slice a11 n11 c11) (0 + k + 1) (partFlat ps ++ partFlat [(n, .slice x1 X x3, xl)]) := rowOwn hown11 fun g hg => hB12.block g (hown11.lt g hg).2 (fun e => by
          have h1 := (hown11.lt g hg).1
          have h2 := (Array.getElem?_eq_some_iff.1 (HAT.out.ext hI.out.1)).1
          omega)
        have hr12 : SeRAt12 w12 q4 0 (.slice none 0 0) (.slice none 0 0) (.slice none 0 0) := (hB12.block q4 (by have := (Array.getElem?_eq_some_iff.1 (HR4.out.ext (hI.out.1.trans hE11))).1; exact this) (fun e => by have h1 := HQ.out; have h2 := HQN.out; omega)).trans (HR4.out.ext (hI.out.1.trans hE11))
        have HFIN := Lib.hid (And.intro hat12 (And.intro hrow12 hr12))
        clear hown11 hg11 hE11 hq11 f3 d3' hn11 hB12 hat12 hw12 hrow12 hr12 hqW g0 g1
        go_wp2_with (first
          | (refine ldAny (by rfl) _ rfl rfl (HFIN.out.1.ld ⟨_, _, _, rfl⟩ ⟨_, _, _, rfl⟩ ⟨_, _, _, rfl⟩) ?_)
          | (refine putSeR12 (by rfl) _ _ rfl rfl rfl HFIN.out.2.2 ⟨_, _, _, rfl⟩ ⟨_, _, _, rfl⟩ ⟨_, _, _, rfl⟩ ?_; intro W5 hat5 hB5))
        have hld := hat5.out.ldVar ⟨_, _, _, rfl⟩ ⟨_, _, _, rfl⟩ ⟨_, _, _, rfl⟩
        refine bodyPost_ret (v := .tuple #[.agg #[.int .i64 tc, .slice s1 s2 s3, .slice d1 d2 d3, .slice a11 n11 c11], .bool true]) (by simp [results, Try.results12, hld, asAddr, Act.put]) rfl ?_
        have hE5 := Ext.newQ11 HE12.out HQ4.out hB5.out
        refine ⟨_, ps ++ [(n, .slice x1 X x3, xl)], by rw [HYES.out], .inr ⟨rfl, HYES.out, ?_⟩, hE5⟩
        have hrow5 := rowOwn HFIN.out.2.1 (w' := W5) fun g hg => hB5.out.block g (HFIN.out.2.1.lt g hg).2 (fun e => by
          obtain ⟨cur, hcur⟩ := ownAt HFIN.out.2.1 hg
          have hr := HFIN.out.2.2
          unfold SeRAt12 at hr
          rw [e, hr] at hcur
          injection hcur with hcur
          injection hcur with _ e2 _
          exact absurd e2 (by decide))
        rw [← partFlat_append] at hrow5
        rw [List.length_append, HLL.out.1]
        have h6 : 0 + k + 1 = k + [(n, Value.slice x1 X x3, xl)].length := by simp
        rw [h6] at hrow5
        exact rowLower hrow5 (HE.out.trans hI.out.1).size
end Go.Proofs.Ytnoeconcpgdjlaa
