/-
  Merged: Layer 9: All.
-/
import Derived.Test.YtfgjhagfpafmoaaGreatPgA
import Derived.Test.YtfgjhagfpafmoaaGreatSgI

namespace Go.Proofs.YtfgjhagfpafmoaaGreat
set_option linter.unusedSimpArgs false
set_option linter.unusedVariables false
set_option maxRecDepth 100000
open Go.RowKit
/- Layer 9: All. -/
theorem ldRecs {w : World} {q i : Nat} {a : Option Addr} {n c : Nat} (h : w.cell? ⟨q, i, none⟩ = some (.slice a n c)) : (Instr.loadAt 87 (.pointer (some ⟨q, i, none⟩))).run Tryz.prog w = .ok (.slice a n c) w := by simp [go_sem, h]
theorem run_sl_to3N {P : Program} {w : World} {t e : TypeId} {size : Nat} (ht : P.underlying t = some (.slice e)) (hs : (P.info? e).map (·.size) = some size) {a : Option Addr} {n cap : Nat} (h : Nat) (hh : h ≤ cap) (k j : IntKind) :
    (Instr.sliceAt t (.slice a n cap) none (some (.int k (h : Int))) (some (.int j (h : Int)))).run P w = .ok (.slice a h h) w := by
  have he : P.elem t = e := by simp [Program.elem, ht]
  have ht' : P.underlying t = some (.slice (P.elem t)) := by rw [he]; exact ht
  obtain ⟨i, hi, h1⟩ := Option.map_eq_some_iff.1 hs
  rw [run_sliceAt_slice w t _ _ _ _ ht', run_slice_hm w t a n cap ht' k j h h (by omega) (by omega) (by omega)]
  simp [sizeOf, typeInfo, he, hi, Result.andThen, sliced, Addr.add]
theorem RowF.ext {B : Nat} {w w' : World} {v : Value} {l : List Int} (h : RowF B w v l) (hE : Ext w w') : RowF B w' v l := by
  obtain ⟨b, n, hb, h⟩ := h
  exact ⟨b, n, hb, rowExt h hE⟩
theorem RowF.but {B p : Nat} {w w' : World} {v : Value} {l : List Int} {cs : Array Value} {t : TypeId} {fr : Nat × Nat} (h : RowF B w v l) (hp : w.heap[p]? = some (.cells cs t fr)) (ht : t ≠ 3) (hB : But p w w') : RowF B w' v l := by
  obtain ⟨b, n, hb, h⟩ := h
  exact ⟨b, n, hb, rowBut h (rowBeside h hp ht) hB⟩
theorem RowF.lower {B B' : Nat} {w : World} {v : Value} {l : List Int} (h : RowF B w v l) (hB : B' ≤ B) : RowF B' w v l := by
  obtain ⟨b, n, hb, h⟩ := h
  exact ⟨b, n, Nat.le_trans hB hb, h⟩
theorem recFlat_set : ∀ (ps : List (Value × Rec.R)) (i : Nat) (hi : i < ps.length) (t : Value) (r : Rec.R), ((((recFlat ps).set (i * 4) (.int .i64 r.client)).set (i * 4 + 1) (.int .i64 r.number)).set (i * 4 + 2) t).set (i * 4 + 3) (.string ⟨r.data.toArray⟩) = recFlat (ps.set i (t, r)) := by
  intro ps
  induction ps with
  | nil => intro i hi; exact absurd hi (by simp)
  | cons p ps ih =>
    intro i hi t r
    have e : recFlat (p :: ps) = .int .i64 p.2.client :: .int .i64 p.2.number :: p.1 :: .string ⟨p.2.data.toArray⟩ :: recFlat ps := rfl
    rw [e]
    cases i with
    | zero => rfl
    | succ i =>
      have h1 : (i + 1) * 4 = i * 4 + 1 + 1 + 1 + 1 := by omega
      rw [h1]
      have e2 : recFlat ((p :: ps).set (i + 1) (t, r)) = .int .i64 p.2.client :: .int .i64 p.2.number :: p.1 :: .string ⟨p.2.data.toArray⟩ :: recFlat (ps.set i (t, r)) := rfl
      rw [e2, ← ih i (by simpa using hi) t r]
      rfl
/-- A record's cells are put anew. -/
theorem ownPutR {w : World} {B g n cap k : Nat} {ps : List (Value × Rec.R)} (h : w.ownsRow B 44 4 (.slice (some ⟨g, 0, none⟩) n cap) n (recFlat ps)) (hk : k < ps.length) (t : Value) (r : Rec.R) :
    ((((w.setCell ⟨g, k * 4, none⟩ (.int .i64 r.client)).setCell ⟨g, k * 4 + 1, none⟩ (.int .i64 r.number)).setCell ⟨g, k * 4 + 2, none⟩ t).setCell ⟨g, k * 4 + 3, none⟩ (.string ⟨r.data.toArray⟩)).ownsRow B 44 4 (.slice (some ⟨g, 0, none⟩) n cap) n (recFlat (ps.set k (t, r))) ∧
    But g w ((((w.setCell ⟨g, k * 4, none⟩ (.int .i64 r.client)).setCell ⟨g, k * 4 + 1, none⟩ (.int .i64 r.number)).setCell ⟨g, k * 4 + 2, none⟩ t).setCell ⟨g, k * 4 + 3, none⟩ (.string ⟨r.data.toArray⟩)) := by
  have h1 := (h.stored (k * 4) (.int .i64 r.client)).1
  have h2 := (h1.stored (k * 4 + 1) (.int .i64 r.number)).1
  have h3 := (h2.stored (k * 4 + 2) t).1
  have h4 := (h3.stored (k * 4 + 3) (.string ⟨r.data.toArray⟩)).1
  rw [recFlat_set ps k hk t r] at h4
  exact ⟨h4, ((((But.refl g w).setCell _ none _).setCell _ none _).setCell _ none _).setCell _ none _⟩
/-- What All tells: records in blocks of their own. -/
structure OwnRecs (B : Nat) (w : World) (v : Value) (qs : List (Value × Rec.R)) : Prop where
  row : w.ownsRow B 44 4 v qs.length (recFlat qs)
  tags : ∀ q ∈ qs, RowF B w q.1 q.2.tags
theorem OwnRecs.recs {B : Nat} {w : World} {v : Value} {qs : List (Value × Rec.R)} (h : OwnRecs B w v qs) : Recs w v (qs.map (·.2)) := recs_of_flat (fun q hq => (h.tags q hq).row.ints) (SlN.ofOwn h.row)
theorem OwnRecs.ext {B : Nat} {w w' : World} {v : Value} {qs : List (Value × Rec.R)} (h : OwnRecs B w v qs) (hE : Ext w w') : OwnRecs B w' v qs := ⟨rowExt h.row hE, fun q hq => (h.tags q hq).ext hE⟩

set_option maxHeartbeats 8000000 in
theorem all9_any {w : World} {B U g p : Nat} {va vp lv : Value} {ps : List (Value × Rec.R)} {G : Seg.Sg} (h : IsSegB w B U g p va vp lv ps G) :
    Calls Tryz.prog 45 #[.pointer (some ⟨g, 0, none⟩)] w fun e w' => ∃ u qs, e = .returned u ∧ OwnRecs w.heap.size w' u qs ∧ qs.map (·.2) = G.w.l.drop G.w.trimmed ∧ Ext w w' := by
  obtain ⟨hgood, hcnt⟩ := h.good
  have hpl := h.seg.len
  have hps : ps.length ≤ 13107 := by omega
  have hrecs := h.seg.recs
  have hright : ∀ q ∈ ps, q.2.tags.length ≤ 1000000 := by
    intro q hq
    have h1 : q.2 ∈ ps.map (·.2) := List.mem_map.2 ⟨q, hq, rfl⟩
    rw [hrecs] at h1
    have h2 := (Rec.right_ok ((Seg.readF_good G.s.l).right _ (List.mem_of_mem_drop h1))).2.2.2.2.1
    omega
  obtain ⟨a, c, rfl, hnc, hcm, hac⟩ := h.seg.open
  have hslN : ∀ w', Ext w w' → SlN 4 w' (.slice a ps.length ps.length) ps.length (recFlat ps) := by
    intro w' hE
    obtain ⟨_, _, e, h1, h2, h3, h4, h5⟩ := (SlN.ofOwn h.seg.row).below hE
    injection e with e1 e2 e3
    subst e1
    refine ⟨_, ps.length, rfl, Nat.le_refl _, Nat.le_trans h1 h2, fun e => ?_, h4, h5⟩
    have := h3 e
    omega
  have hone := ownRec_one h.seg.tags
  have hclone := fun (w' : World) (hE : Ext w w') => cloneR_any _ ps w' (hslN w' hE) hone (by omega)
  have htg : ∀ q ∈ ps, RowI w q.1 q.2.tags := fun q hq => (h.seg.tags q hq).1
  have c2 : w.cell? ⟨g, 2, none⟩ = some (.slice a ps.length c) := cell_of_heap h.seg.heap 2
  obtain ⟨N, hN⟩ : ∃ N, ps.length = N := ⟨_, rfl⟩
  obtain ⟨B0, hB0⟩ : ∃ B0, w.heap.size = B0 := ⟨_, rfl⟩
  rw [hN] at c2 hnc hps hclone
  have HCL := Lib.hid hclone
  have HP := Lib.hid (And.intro hrecs (And.intro hright (And.intro htg hN)))
  have HB0 := Lib.hid hB0
  have hcm2 : (N : Int) ≤ 9223372036854775807 := by omega
  rw [hB0]
  clear h hpl hrecs hright hslN hone hclone htg hN hB0 hgood hcnt
  go_enter Tryz.func45, Tryz.ntmps45
  go_upto_region 1 with fail
  refine wp_region_facts (by kernel_rfl) Ext (fun iop v w => match iop with
      | 0 => v = .pointer (some ⟨g, 0, none⟩)
      | 1 => v = .pointer (some ⟨g, 0, none⟩)
      | 2 => v = .pointer (some ⟨g, 2, none⟩)
      | 3 => v = .slice a N c
      | 4 => v = .pointer (some ⟨g, 0, none⟩)
      | 5 => v = .pointer (some ⟨g, 0, none⟩)
      | 6 => v = .pointer (some ⟨g, 2, none⟩)
      | 7 => v = .slice a N c
      | 8 => v = .int .i64 (N : Int)
      | 9 => v = .pointer (some ⟨g, 0, none⟩)
      | 10 => v = .pointer (some ⟨g, 0, none⟩)
      | 11 => v = .pointer (some ⟨g, 2, none⟩)
      | 12 => v = .slice a N c
      | 13 => v = .int .i64 (N : Int)
      | 14 => v = .slice a N N
      | 15 => w.ownsRow B0 44 4 v N (recFlat ps)
      | _ => w.ownsRow B0 44 4 v N (recFlat ps)
      ) (by kernel_rfl) (fun _ _ _ h k => Ext.trans h k) (fun a => Ext.refl a) (Ext.drew _) ?_ ?_ ?_
  · intro iop v wa wb hF hL
    iterate 15 (rcases iop with _ | iop; exact hF)
    rcases iop with _ | iop; (first | exact hF | exact rowExt hF hL)
    (first | exact hF | exact rowExt hF hL)
  · refine Obls.cons ?_ (Obls.cons ?_ (Obls.cons ?_ (Obls.cons ?_ (Obls.cons ?_ (Obls.cons ?_ (Obls.cons ?_ (Obls.cons ?_ (Obls.cons ?_ (Obls.cons ?_ (Obls.cons ?_ (Obls.cons ?_ (Obls.cons ?_ (Obls.cons ?_ (Obls.cons ?_ (Obls.cons ?_ (Obls.cons ?_ (Obls.nil)))))))))))))))))
    · intro ev wy hp hl hk hd
      have e0 : ev (.tmp 0) = .pointer (some ⟨g, 0, none⟩) := hk 0 (by decide)
      clear hk hd
      exact Yield.mv rfl ⟨Ext.refl _, e0⟩
    · intro ev wy hp hl hk hd
      have e6 : ev (.tmp 6) = .pointer (some ⟨g, 0, none⟩) := hk 6 (by decide)
      clear hk hd
      exact Yield.op (v := .pointer (some ⟨g, 0, none⟩)) (w' := wy) (by simp [execOp, go_sem, e6]) ⟨Ext.refl _, rfl⟩
    · intro ev wy hp hl hk hd
      have e7 : ev (.tmp 7) = .pointer (some ⟨g, 0, none⟩) := hk 7 (by decide)
      clear hk hd
      exact Yield.op (v := .pointer (some ⟨g, 2, none⟩)) (w' := wy) (by simp [execOp, go_sem, e7]) ⟨Ext.refl _, rfl⟩
    · intro ev wy hp hl hk hd
      have e8 : ev (.tmp 8) = .pointer (some ⟨g, 2, none⟩) := hk 8 (by decide)
      clear hk hd
      exact Yield.load rfl e8 (ldRecs (cell_ext c2 hl)) ⟨Ext.refl _, rfl⟩
    · intro ev wy hp hl hk hd
      have e0 : ev (.tmp 0) = .pointer (some ⟨g, 0, none⟩) := hk 0 (by decide)
      clear hk hd
      exact Yield.mv rfl ⟨Ext.refl _, e0⟩
    · intro ev wy hp hl hk hd
      have e10 : ev (.tmp 10) = .pointer (some ⟨g, 0, none⟩) := hk 10 (by decide)
      clear hk hd
      exact Yield.op (v := .pointer (some ⟨g, 0, none⟩)) (w' := wy) (by simp [execOp, go_sem, e10]) ⟨Ext.refl _, rfl⟩
    · intro ev wy hp hl hk hd
      have e11 : ev (.tmp 11) = .pointer (some ⟨g, 0, none⟩) := hk 11 (by decide)
      clear hk hd
      exact Yield.op (v := .pointer (some ⟨g, 2, none⟩)) (w' := wy) (by simp [execOp, go_sem, e11]) ⟨Ext.refl _, rfl⟩
    · intro ev wy hp hl hk hd
      have e12 : ev (.tmp 12) = .pointer (some ⟨g, 2, none⟩) := hk 12 (by decide)
      clear hk hd
      exact Yield.load rfl e12 (ldRecs (cell_ext c2 hl)) ⟨Ext.refl _, rfl⟩
    · intro ev wy hp hl hk hd
      have e13 : ev (.tmp 13) = .slice a N c := hk 13 (by decide)
      clear hk hd
      exact Yield.op (v := .int .i64 (N : Int)) (w' := wy) (by simp [execOp, go_sem, e13]) ⟨Ext.refl _, rfl⟩
    · intro ev wy hp hl hk hd
      have e0 : ev (.tmp 0) = .pointer (some ⟨g, 0, none⟩) := hk 0 (by decide)
      clear hk hd
      exact Yield.mv rfl ⟨Ext.refl _, e0⟩
    · intro ev wy hp hl hk hd
      have e15 : ev (.tmp 15) = .pointer (some ⟨g, 0, none⟩) := hk 15 (by decide)
      clear hk hd
      exact Yield.op (v := .pointer (some ⟨g, 0, none⟩)) (w' := wy) (by simp [execOp, go_sem, e15]) ⟨Ext.refl _, rfl⟩
    · intro ev wy hp hl hk hd
      have e16 : ev (.tmp 16) = .pointer (some ⟨g, 0, none⟩) := hk 16 (by decide)
      clear hk hd
      exact Yield.op (v := .pointer (some ⟨g, 2, none⟩)) (w' := wy) (by simp [execOp, go_sem, e16]) ⟨Ext.refl _, rfl⟩
    · intro ev wy hp hl hk hd
      have e17 : ev (.tmp 17) = .pointer (some ⟨g, 2, none⟩) := hk 17 (by decide)
      clear hk hd
      exact Yield.load rfl e17 (ldRecs (cell_ext c2 hl)) ⟨Ext.refl _, rfl⟩
    · intro ev wy hp hl hk hd
      have e18 : ev (.tmp 18) = .slice a N c := hk 18 (by decide)
      clear hk hd
      exact Yield.op (v := .int .i64 (N : Int)) (w' := wy) (by simp [execOp, go_sem, e18]) ⟨Ext.refl _, rfl⟩
    · intro ev wy hp hl hk hd
      have e9 : ev (.tmp 9) = .slice a N c := hk 9 (by decide)
      have e14 : ev (.tmp 14) = .int .i64 (N : Int) := hk 14 (by decide)
      have e19 : ev (.tmp 19) = .int .i64 (N : Int) := hk 19 (by decide)
      clear hk hd
      exact Yield.slice rfl e9 (by simp only [Option.map_none, Option.map_some, e14, e19]; exact run_sl_to3N Tryz.underlying87 (size := 4) (by kernel_rfl) N (by omega) .i64 .i64) ⟨Ext.refl _, rfl⟩
    · intro ev wy hp hl hk hd
      have e20 : ev (.tmp 20) = .slice a N N := hk 20 (by decide)
      clear hk hd
      refine Yield.call rfl hp Tryz.func85 rfl (by kernel_rfl) ?_
      simp only [List.map_toArray, List.map_cons, List.map_nil, e20]
      exact (HCL.out wy hl).mono fun e w' ⟨u, he, ho, hb⟩ => ⟨u, he, hb, rowLower ho (by rw [← HB0.out]; exact hl.size)⟩
    · intro ev wy hp hl hk hd
      have f21 : (fun (v : Value) (w : World) => w.ownsRow B0 44 4 v N (recFlat ps)) (ev (.tmp 21)) wy := hk 21 (by decide)
      generalize hx21 : ev (.tmp 21) = x21 at *
      clear hk hd
      exact Yield.as rfl ⟨Ext.refl _, by rw [hx21]; exact f21⟩
  · intro vals wz hz hv
    have g6 : vals 0 = .pointer (some ⟨g, 0, none⟩) := hv 0 (by decide)
    have g7 : vals 1 = .pointer (some ⟨g, 0, none⟩) := hv 1 (by decide)
    have g8 : vals 2 = .pointer (some ⟨g, 2, none⟩) := hv 2 (by decide)
    have g9 : vals 3 = .slice a N c := hv 3 (by decide)
    have g10 : vals 4 = .pointer (some ⟨g, 0, none⟩) := hv 4 (by decide)
    have g11 : vals 5 = .pointer (some ⟨g, 0, none⟩) := hv 5 (by decide)
    have g12 : vals 6 = .pointer (some ⟨g, 2, none⟩) := hv 6 (by decide)
    have g13 : vals 7 = .slice a N c := hv 7 (by decide)
    have g14 : vals 8 = .int .i64 (N : Int) := hv 8 (by decide)
    have g15 : vals 9 = .pointer (some ⟨g, 0, none⟩) := hv 9 (by decide)
    have g16 : vals 10 = .pointer (some ⟨g, 0, none⟩) := hv 10 (by decide)
    have g17 : vals 11 = .pointer (some ⟨g, 2, none⟩) := hv 11 (by decide)
    have g18 : vals 12 = .slice a N c := hv 12 (by decide)
    have g19 : vals 13 = .int .i64 (N : Int) := hv 13 (by decide)
    have g20 : vals 14 = .slice a N N := hv 14 (by decide)
    have g21 : (fun (v : Value) (w : World) => w.ownsRow B0 44 4 v N (recFlat ps)) (vals 15) wz := hv 15 (by decide)
    have g3 : (fun (v : Value) (w : World) => w.ownsRow B0 44 4 v N (recFlat ps)) (vals 16) wz := hv 16 (by decide)
    clear hv
    simp only [putAll, Act.put, List.setIfInBounds_toArray, List.set_cons_zero, List.set_cons_succ, g6, g7, g8, g9, g10, g11, g12, g13, g14, g15, g16, g17, g18, g19, g20]
    clear g6
    clear g7
    clear g8
    clear g9
    clear g10
    clear g11
    clear g12
    clear g13
    clear g14
    clear g15
    clear g16
    clear g17
    clear g18
    clear g19
    clear g20
    generalize vals 15 = v21 at *
    generalize vals 16 = v3 at *
    obtain ⟨ua, un, uc, rfl⟩ := ownSlice g3
    have hun : un = N := by
      obtain ⟨_, _, e, _⟩ := SlN.ofOwn g3
      injection e
    subst hun
    have HI0 := Lib.hid (show (wz.ownsRow B0 44 4 (.slice ua un uc) un (recFlat ps)) ∧ ps.map (·.2) = G.w.l.drop G.w.trimmed ∧ (∀ q ∈ ps, RowI wz q.1 q.2.tags) ∧ (∀ j (hj : j < ps.length), j < 0 → RowF B0 wz ps[j].1 ps[j].2.tags) ∧ Ext w wz from ⟨g3, HP.out.1, fun q hq => (HP.out.2.2.1 q hq).ext hz, fun j _ h => absurd h (by omega), hz⟩)
    have HLB := Lib.hid (fun gg (e : ua = some gg) => (g3.lt gg.block (by rw [e]; rfl)).1)
    clear g3 g21 hz c2
    go_wp2_with fail
    go_loopw [24] (fun i wr => ∃ (k : Nat) (qs : List (Value × Rec.R)), k ≤ un ∧ i = .int .i64 k ∧ Hid ((wr.ownsRow B0 44 4 (.slice ua un uc) un (recFlat qs)) ∧ qs.map (·.2) = G.w.l.drop G.w.trimmed ∧ (∀ q ∈ qs, RowI wr q.1 q.2.tags) ∧ (∀ j (hj : j < qs.length), j < k → RowF B0 wr qs[j].1 qs[j].2.tags) ∧ Ext w wr)) (fun i _ => un - (intOf i).toNat)
    case atStart => exact ⟨0, ps, by omega, rfl, HI0⟩
    case round =>
      obtain ⟨k, qs, hk, rfl, hI⟩ := hrel
      have hql : qs.length = un := by
        have := congrArg List.length (hI.out.2.1.trans HP.out.1.symm)
        rw [List.length_map, List.length_map, HP.out.2.2.2] at this
        exact this
      have HQL := Lib.hid hql
      by_cases hlt : k < un
      · have hkq : k < qs.length := by omega
        obtain ⟨gu, rfl⟩ : ∃ gu, ua = some ⟨gu, 0, none⟩ := by
          rcases hI.out.1.2 with ⟨e, e2⟩ | ⟨gg, _, _, e, _⟩
          · omega
          · injection e with e
            exact ⟨gg, e⟩
        have hgB : B0 ≤ gu := HLB.out ⟨gu, 0, none⟩ rfl
        obtain ⟨Q9, hQ9⟩ : ∃ Q, qs[k] = Q := ⟨_, rfl⟩
        have hrow := hI.out.1
        have hcell : ∀ j, j < 4 → wr.cell? ⟨gu, k * 4 + j, none⟩ = [Value.int .i64 Q9.2.client, .int .i64 Q9.2.number, Q9.1, .string ⟨Q9.2.data.toArray⟩][j]? := by
          intro j hj
          rw [hrow.cellAt (k * 4 + j) (by omega), recFlat_at qs k j hkq hj, hQ9]
        have hti : RowI wr Q9.1 Q9.2.tags := hI.out.2.2.1 Q9 (by rw [← hQ9]; exact List.getElem_mem hkq)
        have htl : Q9.2.tags.length ≤ 1000000 := by
          have h1 : Q9.2 ∈ qs.map (·.2) := List.mem_map.2 ⟨Q9, by rw [← hQ9]; exact List.getElem_mem hkq, rfl⟩
          rw [hI.out.2.1, ← HP.out.1] at h1
          obtain ⟨q', hq', e'⟩ := List.mem_map.1 h1
          rw [← e']
          exact HP.out.2.1 q' hq'
        obtain ⟨t9, R9⟩ := Q9
        simp only at hcell hti htl
        obtain ⟨ta, tn, tc, rfl⟩ : ∃ x y z, t9 = .slice x y z := by
          obtain ⟨b', n', ho⟩ := hti
          exact ownSlice ho
        have hown := fun (w' : World) (hE : Ext wr w') => own9_any (recV (.slice ta tn tc) R9) R9 w' ⟨_, rfl, (hti.ext hE).ints⟩ htl
        simp only [recV] at hown
        obtain ⟨y0, hy0⟩ : ∃ q : Int, R9.client = q := ⟨_, rfl⟩
        obtain ⟨y1, hy1⟩ : ∃ q : Int, R9.number = q := ⟨_, rfl⟩
        obtain ⟨y3, hy3⟩ : ∃ q : ByteArray, (⟨R9.data.toArray⟩ : ByteArray) = q := ⟨_, rfl⟩
        rw [hy0, hy1, hy3] at hown
        have p0 : wr.cell? ⟨gu, k * 4, none⟩ = some (.int .i64 y0) := by rw [← hy0]; exact hcell 0 (by omega)
        have p1 : wr.cell? ⟨gu, k * 4 + 1, none⟩ = some (.int .i64 y1) := by rw [← hy1]; exact hcell 1 (by omega)
        have p2 : wr.cell? ⟨gu, k * 4 + 2, none⟩ = some (.slice ta tn tc) := hcell 2 (by omega)
        have p3 : wr.cell? ⟨gu, k * 4 + 3, none⟩ = some (.string y3) := by rw [← hy3]; exact hcell 3 (by omega)
        have hE1 := Ext.alloc wr (.cells #[.int .i64 y0, .int .i64 y1, .slice ta tn tc, .string y3] 44)
        have HY := Lib.hid (And.intro hy0 (And.intro hy1 (And.intro hy3 hQ9)))
        have HOWN := Lib.hid (hown _ hE1)
        clear hown hy0 hy1 hy3 hQ9 hcell hti htl hrow hql
        go_wp2_with fail
        refine HOWN.out.mono ?_
        rintro e w4 ⟨t4, rfl, hf4, hE4⟩
        obtain ⟨a4, n4, c4, rfl⟩ : ∃ x y z, t4 = .slice x y z := by
          obtain ⟨b', n', _, ho⟩ := hf4
          exact ownSlice ho
        have hE14 := hE1.trans hE4
        have p0' := cell_ext p0 hE14
        have p1' := cell_ext p1 hE14
        have p2' := cell_ext p2 hE14
        have p3' := cell_ext p3 hE14
        have hrow4 := rowExt hI.out.1 hE14
        have z0 := hrow4.frozenAt (k * 4)
        have z1 := hrow4.frozenAt (k * 4 + 1)
        have z2 := hrow4.frozenAt (k * 4 + 2)
        have z3 := hrow4.frozenAt (k * 4 + 3)
        have HPUT := Lib.hid (ownPutR hrow4 hkq (.slice a4 n4 c4) R9)
        have HF4 := Lib.hid (And.intro hf4 (And.intro hE14 hrow4))
        clear p0 p1 p2 p3 hf4 hE4 hE1 hE14 hrow4
        go_wp2_with fail
        have hput := HPUT.out
        rw [HY.out.1, HY.out.2.1, HY.out.2.2.1] at hput
        obtain ⟨hp1, hp2⟩ := hput
        obtain ⟨cur, hcur⟩ := ownAt HF4.out.2.2 (k := gu) rfl
        have hwg : w.heap.size ≤ gu := by rw [HB0.out]; exact hgB
        have hmap : (qs.set k (.slice a4 n4 c4, R9)).map (·.2) = qs.map (·.2) := by
          apply List.ext_getElem
          · simp
          · intro i h1 h2
            simp only [List.getElem_map, List.getElem_set]
            split
            · rename_i e
              subst e
              rw [HY.out.2.2.2]
            · rfl
        have hnewF : RowF B0 ((((w4.setCell ⟨gu, k * 4, none⟩ (.int .i64 y0)).setCell ⟨gu, k * 4 + 1, none⟩ (.int .i64 y1)).setCell ⟨gu, k * 4 + 2, none⟩ (.slice a4 n4 c4)).setCell ⟨gu, k * 4 + 3, none⟩ (.string y3)) (.slice a4 n4 c4) R9.tags := (HF4.out.1.but hcur (by decide) hp2).lower (by rw [← HB0.out]; exact Nat.le_trans hI.out.2.2.2.2.size (Ext.alloc _ _).size)
        have hEw := hI.out.2.2.2.2.trans HF4.out.2.1
        refine ⟨⟨k + 1, qs.set k (.slice a4 n4 c4, R9), by omega, by simp, Lib.hid ⟨hp1, hmap.trans hI.out.2.1, fun q hq => ?_, fun j hj hjk => ?_, Below.trans (B := w.heap.size) hEw (hp2.below hwg hEw.size)⟩⟩, by simp [intOf]; omega⟩
        · rcases List.mem_or_eq_of_mem_set hq with hq | rfl
          · exact ((hI.out.2.2.1 q hq).ext HF4.out.2.1).but hcur (by decide) hp2
          · exact hnewF.row
        · have hj' : j < qs.length := by simpa using hj
          by_cases hjk2 : j = k
          · subst hjk2
            simp only [List.getElem_set_self]
            exact hnewF
          · rw [List.getElem_set_ne (by omega)]
            exact ((hI.out.2.2.2.1 j hj' (by omega)).ext HF4.out.2.1).but hcur (by decide) hp2
      · obtain rfl : k = un := by omega
        clear hql
        go_wp2_with fail
        go_ret
        refine ⟨_, qs, rfl, ⟨by rw [HQL.out]; exact hI.out.1, fun q hq => ?_⟩, hI.out.2.1, hI.out.2.2.2.2⟩
        obtain ⟨j, hj, rfl⟩ := List.getElem_of_mem hq
        exact hI.out.2.2.2.1 j hj (by rw [← HQL.out]; exact hj)
end Go.Proofs.YtfgjhagfpafmoaaGreat
