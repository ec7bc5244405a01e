/-
  EntryNext: a chain with one entry more is a chain just if that is right, has the next number, and covers the last cut: for every input the statement's function returns true, and leaves what came in as it was.
-/
import Derived.Test.YtboopfbflfimlaaEntZ
namespace Go.Proofs.Ytboopfbflfimlaa
set_option maxRecDepth 100000
set_option linter.unusedSimpArgs false
set_option linter.unusedVariables false
open Go.ChangeShapes Go.WideShapes Go.ChangeAt Go.RowKit

/-- append(s, x...), where a guard asks for it. -/
theorem wpList_appN_if {P : Program} {w : World} {ops : Array Oper} {rest : List Oper} {o : Oper} {a : Act} {Q : Exit → Act → World → Prop} (hw : Region.wanted o (yielded ops a.tmps) = true) (s x : Operand) {t e : TypeId} {z : Value} {size bytes : Nat} (E : ElemN P t e z size bytes)
    (ho : o.op = .call { callee := .builtin .append, args := #[s, x], argTypes := #[t, t] }) {base : Nat} {v u : Value} {n m : Nat} {xs ys : List Value} (hs : a.eval s = v) (hx : a.eval x = u)
    (hown : w.ownsRow base e size v n xs) (hu : SlN size w u m ys) (h1 : ∀ y ∈ ys, y.oneCell' = true) (hsz : n + m ≤ maxLen) (hby : (n + m) * bytes ≤ 140737488355328) (hb : base ≤ w.heap.size)
    (h : ∀ v' w', w'.ownsRow base e size v' (n + m) (xs ++ ys) → w.grownBy w' v.ownBlock → wpList P ops Q rest (a.put o.dst v') w') : wpList P ops Q (o :: rest) a w :=
  wpList_step fun K hK => by
    obtain ⟨v', w', hr, h2, h3⟩ := run_appN (P := P) (ty := o.type) E hown hu h1 hsz hby hb
    rw [if_pos hw]
    unfold Oper.wp execOp
    simp only [ho, resolve, invoke, builtin, Sem.run_bind, Sem.run_pure, Result.andThen_ok, List.map_toArray, List.map_cons, List.map_nil, hs, hx, hr]
    exact hK _ _ (h v' w' h2 h3)
theorem OwnEnts.snoc {w0 w9 : World} {base : Nat} {v9 : Value} {l : List Ent.E} {u : Value} {e : Ent.E} {ps : List (Value × Ent.E)} (h1 : ps.map (·.2) = l) (h2 : ∀ p ∈ ps, Ints w0 p.1 p.2.cut) (hu : Ints w0 u e.cut) (h : w9.ownsRow base 31 6 v9 (l.length + 1) (entFlat ps ++ entFlat [(u, e)])) : OwnEnts w0 w9 base v9 (l ++ [e]) := by
  refine ⟨ps ++ [(u, e)], by rw [List.map_append, h1]; rfl, ?_, ?_⟩
  · intro q hq
    rcases List.mem_append.1 hq with h | h
    · exact h2 q h
    · obtain rfl := List.mem_singleton.1 h
      exact hu
  · rw [List.length_append, entFlat_append]
    exact h
theorem SlN.oneAt (w : World) {T : TypeId} (u : Value) (e : Ent.E) : SlN 6 (w.alloc (.cells #[.int .i64 e.number, .int .i64 e.kind, u, .int .i64 e.tag, .int .i64 e.term, .int .i64 e.pos] T)) (.slice (some ⟨w.heap.size, 0, none⟩) 1 1) 1 (entFlat [(u, e)]) := SlN.one6 w u e

theorem coversX_any (v u : Value) (ns ms : List Int) (w : World) (hv : Ints w v ns) (hu : Ints w u ms) :
    Calls Try.prog 25 #[v, u] w fun e w' => e = .returned (.bool (Vec.covers ns ms)) ∧ Ext w w' :=
  (covers_any v u ns ms w hv hu).mono fun e w' h => ⟨h.1, by rw [← h.2]; exact Ext.refl _⟩

set_option maxHeartbeats 16000000 in
theorem entryNext_walk (v u : Value) (l : List Ent.E) (r : Ent.E) (W : World) (hv : Ents W v l) (hu : IsEnt W u r) (h64 : l.length * 64 ≤ 140737488355328) :
    Calls Try.prog 9 #[v, u] W fun e W' => e = .returned (.bool true) ∧ Below W.heap.size W W' := by
  have hbx := box_entR
  have HV := Lib.hid hv
  obtain ⟨n, kd, c, tg, tm, ps0⟩ := r
  have HU := Lib.hid hu
  obtain ⟨a, cap, rfl, hcap, hmax⟩ := hv.shape
  obtain ⟨a', m', c', e0⟩ := hu.shape
  simp only at e0
  subst e0
  have HUI := Lib.hid (show Ints W (.slice a' m' c') c by obtain ⟨t, e, h⟩ := hu; unfold entV at e; injection e with e; simp at e; rw [e]; exact h)
  clear hv hu
  have te := tE
  have hE0 : Ext W (W.alloc (.cells #[.int .i64 n, .int .i64 kd, .slice a' m' c', .int .i64 tg, .int .i64 tm, .int .i64 ps0] 26)) := Ext.alloc _ _
  have HA0 := Lib.hid (EntAt.new 26 W (.slice a' m' c') ⟨n, kd, c, tg, tm, ps0⟩)
  by_cases g1 : (200 : Int) < (l.length : Int)
  · skip
    go_enter Try.func9, Try.ntmps9
    go_wp2_with fail
    refine (own5_any _ l _ (HV.out.below hE0) h64).mono ?_
    rintro e w1 ⟨u1, rfl, ho1, hE1⟩
    have HO1 := Lib.hid ho1
    obtain ⟨a1, c1, rfl⟩ := ho1.isSlice
    clear ho1
    have e1 := hE0.trans hE1
    go_wp2_with fail
    refine (entAlive_any _).mono ?_
    rintro e w5 ⟨rfl, hE5⟩
    go_wp2_with fail
    go_ret
    exact ⟨rfl, e1.trans hE5⟩
  by_cases g2 : (l.length : Int) < 1
  · skip
    go_enter Try.func9, Try.ntmps9
    go_wp2_with fail
    refine (own5_any _ l _ (HV.out.below hE0) h64).mono ?_
    rintro e w1 ⟨u1, rfl, ho1, hE1⟩
    have HO1 := Lib.hid ho1
    obtain ⟨a1, c1, rfl⟩ := ho1.isSlice
    clear ho1
    have e1 := hE0.trans hE1
    go_wp2_with fail
    refine (entAlive_any _).mono ?_
    rintro e w5 ⟨rfl, hE5⟩
    go_wp2_with fail
    go_ret
    exact ⟨rfl, e1.trans hE5⟩
  by_cases g3 : Ent.chain l = l.length
  rotate_left
  · have hch := fun v w h => chain5_any v l w h
    obtain ⟨M, hM⟩ : ∃ M, Ent.chain l = M := ⟨_, rfl⟩
    rw [hM] at g3 hch
    have hne : ((M : Int) != (l.length : Int)) = true := by simp; omega
    have HCH := Lib.hid hch
    clear hM hch g3
    go_enter Try.func9, Try.ntmps9
    go_wp2_with fail
    refine (own5_any _ l _ (HV.out.below hE0) h64).mono ?_
    rintro e w1 ⟨u1, rfl, ho1, hE1⟩
    have HO1 := Lib.hid ho1
    obtain ⟨a1, c1, rfl⟩ := ho1.isSlice
    clear ho1
    have e1 := hE0.trans hE1
    go_wp2_with fail
    refine (HCH.out _ _ (HO1.out.ents hE1)).mono ?_
    rintro e w2 ⟨rfl, hE2⟩
    have e2 := e1.trans hE2
    go_wp2_with fail
    refine (entAlive_any _).mono ?_
    rintro e w5 ⟨rfl, hE5⟩
    go_wp2_with fail
    go_ret
    exact ⟨rfl, e2.trans hE5⟩
  have hmore := Ent.chain_more (show Ent.isChain l from g3) ⟨n, kd, c, tg, tm, ps0⟩
  obtain ⟨B, hB⟩ : ∃ B, Ent.follows l ⟨n, kd, c, tg, tm, ps0⟩ = B := ⟨_, rfl⟩
  rw [hB] at hmore
  have hch := fun v w h => chain5_any v (l ++ [⟨n, kd, c, tg, tm, ps0⟩]) w h
  obtain ⟨K, hK⟩ : ∃ K, Ent.chain (l ++ [⟨n, kd, c, tg, tm, ps0⟩]) = K := ⟨_, rfl⟩
  rw [hK] at hmore hch
  have hkb : ((K : Int) == (l.length : Int) + 1) = B := by rw [← hmore]; rw [Bool.eq_iff_iff]; simp; omega
  have hbb : (B == B) = true := by cases B <;> rfl
  have HKB := Lib.hid hkb
  have HBB := Lib.hid hbb
  have HCH := Lib.hid hch
  have HB := Lib.hid hB
  have HG3 := Lib.hid g3
  have hk1 : l.length + 1 ≤ maxLen := by unfold maxLen; omega
  have hk2 : (l.length + 1) * 64 ≤ 140737488355328 := by omega
  have HFI := Lib.hid (Ent.follows_iff l ⟨n, kd, c, tg, tm, ps0⟩)
  clear hmore hch hK hB g3 hkb hbb
  cases hr : Ent.right ⟨n, kd, c, tg, tm, ps0⟩ with
  | false =>
    have HR := Lib.hid hr
    obtain rfl : B = false := by cases B with
      | false => rfl
      | true => have := (HFI.out.1 HB.out).1; rw [hr] at this; cases this
    clear hr
    go_enter Try.func9, Try.ntmps9
    go_wp2_with fail
    refine (own5_any _ l _ (HV.out.below hE0) h64).mono ?_
    rintro e w1 ⟨u1, rfl, ho1, hE1⟩
    have HO1 := Lib.hid ho1
    obtain ⟨a1, c1, rfl⟩ := ho1.isSlice
    clear ho1
    have e1 := hE0.trans hE1
    go_wp2_with fail
    refine (chain5_any _ l _ (HO1.out.ents hE1)).mono ?_
    rw [HG3.out]
    rintro e w2 ⟨rfl, hE2⟩
    have e2 := e1.trans hE2
    have A2 := Lib.hid ((HA0.out.ext hE1).ext hE2)
    obtain ⟨y0, y1, y2, y3, y4, y5⟩ := A2.out.cells
    go_wp2_with fail
    clear y0 y1 y2 y3 y4 y5
    refine (right5_any _ ⟨n, kd, c, tg, tm, ps0⟩ _ (HU.out.below e2)).mono ?_
    rw [HR.out]
    rintro e w3 ⟨rfl, hE3⟩
    have e3 := e2.trans hE3
    have A3 := Lib.hid (A2.out.ext hE3)
    obtain ⟨y0, y1, y2, y3, y4, y5⟩ := A3.out.cells
    go_wp2_with fail
    clear y0 y1 y2 y3 y4 y5
    go_loopw [6, 7] (fun mm i wr => mm = .bool false ∧ i = .int .i64 (prevI l.length) ∧ Ext w3 wr) (fun _ _ _ => 0)
    case atStart => exact ⟨rfl, by unfold prevI; rfl, Ext.refl _⟩
    case round =>
      obtain ⟨rfl, rfl, hE⟩ := hrel
      have hi : prevI l.length = ((l.length - 1 : Nat) : Int) := by unfold prevI; omega
      rw [hi]
      have A4 := Lib.hid (A3.out.ext hE)
      obtain ⟨y0, y1, y2, y3, y4, y5⟩ := A4.out.cells
      have O4 := Lib.hid (((HO1.out.ext hE2).ext hE3).ext hE)
      have e4 := e3.trans hE
      go_wp2_with fail
      clear y0 y1 y2 y3 y4 y5
      refine (entAlive_any _).mono ?_
      rintro e wa ⟨rfl, hEa⟩
      have ea := e4.trans hEa
      have Aa := Lib.hid (A4.out.ext hEa)
      have Oa := Lib.hid (O4.out.ext hEa)
      obtain ⟨y0, y1, y2, y3, y4, y5⟩ := Aa.out.cells
      obtain ⟨ps, hps, hpi, hown⟩ := Oa.out
      have hEb : Ext wa (wa.alloc (.cells #[.int .i64 n, .int .i64 kd, .slice a' m' c', .int .i64 tg, .int .i64 tm, .int .i64 ps0] 31)) := Ext.alloc _ _
      have O2 := Lib.hid (rowExt hown hEb)
      have HPS := Lib.hid hps
      have HPI := Lib.hid hpi
      have HSL := Lib.hid (SlN.oneAt (T := 31) wa (.slice a' m' c') ⟨n, kd, c, tg, tm, ps0⟩)
      have hone := entFlat_one (w := W) (ps := [(.slice a' m' c', ⟨n, kd, c, tg, tm, ps0⟩)]) (by intro q hq; obtain rfl := List.mem_singleton.1 hq; exact HUI.out)
      have eb := Lib.hid (ea.trans hEb)
      have e0b := Lib.hid (((((hE1.trans hE2).trans hE3).trans hE).trans hEa).trans hEb)
      clear hps hpi hown
      go_wp2_with (at_builtin; refine wpList_appN_if (by rfl) (.tmp 67) (.tmp 69) te rfl rfl rfl O2.out HSL.out hone hk1 hk2 e0b.out.size ?_; intro v9 w9 hown9 hg9)
      have hg9 : (wa.alloc (.cells #[.int .i64 n, .int .i64 kd, .slice a' m' c', .int .i64 tg, .int .i64 tm, .int .i64 ps0] 31)).grownBy w9 (Value.slice a1 l.length c1).ownBlock := hg9
      have hE9 : Ext W w9 := Below.grown eb.out hg9 eb.out.size (fun j hj => Nat.le_trans hE0.size (O2.out.lt j hj).1)
      have hE09 : Ext (W.alloc (.cells #[.int .i64 n, .int .i64 kd, .slice a' m' c', .int .i64 tg, .int .i64 tm, .int .i64 ps0] 26)) w9 := Below.grown e0b.out hg9  e0b.out.size (fun j hj => (O2.out.lt j hj).1)
      have HS := Lib.hid ((OwnEnts.snoc (e := ⟨n, kd, c, tg, tm, ps0⟩) HPS.out HPI.out (HUI.out.below hE0) hown9).ents hE09)
      refine (HCH.out _ _ HS.out).mono ?_
      rintro e wb ⟨rfl, hEb2⟩
      have hkb := HKB.out
      have hbb := HBB.out
      clear hown9 hg9 y0 y1 y2 y3 y4 y5
      go_wp2_with fail
      go_ret
      exact ⟨rfl, hE9.trans hEb2⟩
  | true =>
    have HR := Lib.hid hr
    by_cases hn : n = (l.length : Int) + 1
    rotate_left
    · obtain rfl : B = false := by cases B with
        | false => rfl
        | true => exact (hn (HFI.out.1 HB.out).2.1).elim
      have hnb : (n == (l.length : Int) + 1) = false := beq_eq_false_iff_ne.2 hn
      have HNB := Lib.hid hnb
      have HN := Lib.hid hn
      clear hr hn hnb
      go_enter Try.func9, Try.ntmps9
      go_wp2_with fail
      refine (own5_any _ l _ (HV.out.below hE0) h64).mono ?_
      rintro e w1 ⟨u1, rfl, ho1, hE1⟩
      have HO1 := Lib.hid ho1
      obtain ⟨a1, c1, rfl⟩ := ho1.isSlice
      clear ho1
      have e1 := hE0.trans hE1
      go_wp2_with fail
      refine (chain5_any _ l _ (HO1.out.ents hE1)).mono ?_
      rw [HG3.out]
      rintro e w2 ⟨rfl, hE2⟩
      have e2 := e1.trans hE2
      have A2 := Lib.hid ((HA0.out.ext hE1).ext hE2)
      obtain ⟨y0, y1, y2, y3, y4, y5⟩ := A2.out.cells
      go_wp2_with fail
      clear y0 y1 y2 y3 y4 y5
      refine (right5_any _ ⟨n, kd, c, tg, tm, ps0⟩ _ (HU.out.below e2)).mono ?_
      rw [HR.out]
      rintro e w3 ⟨rfl, hE3⟩
      have e3 := e2.trans hE3
      have A3 := Lib.hid (A2.out.ext hE3)
      obtain ⟨y0, y1, y2, y3, y4, y5⟩ := A3.out.cells
      have hnb := HNB.out
      go_wp2_with fail
      clear y0 y1 y2 y3 y4 y5
      go_loopw [6, 7] (fun mm i wr => mm = .bool false ∧ i = .int .i64 (prevI l.length) ∧ Ext w3 wr) (fun _ _ _ => 0)
      case atStart => exact ⟨rfl, by unfold prevI; rfl, Ext.refl _⟩
      case round =>
        obtain ⟨rfl, rfl, hE⟩ := hrel
        have hi : prevI l.length = ((l.length - 1 : Nat) : Int) := by unfold prevI; omega
        rw [hi]
        have A4 := Lib.hid (A3.out.ext hE)
        obtain ⟨y0, y1, y2, y3, y4, y5⟩ := A4.out.cells
        have O4 := Lib.hid (((HO1.out.ext hE2).ext hE3).ext hE)
        have e4 := e3.trans hE
        go_wp2_with fail
        clear y0 y1 y2 y3 y4 y5
        refine (entAlive_any _).mono ?_
        rintro e wa ⟨rfl, hEa⟩
        have ea := e4.trans hEa
        have Aa := Lib.hid (A4.out.ext hEa)
        have Oa := Lib.hid (O4.out.ext hEa)
        obtain ⟨y0, y1, y2, y3, y4, y5⟩ := Aa.out.cells
        obtain ⟨ps, hps, hpi, hown⟩ := Oa.out
        have hEb : Ext wa (wa.alloc (.cells #[.int .i64 n, .int .i64 kd, .slice a' m' c', .int .i64 tg, .int .i64 tm, .int .i64 ps0] 31)) := Ext.alloc _ _
        have O2 := Lib.hid (rowExt hown hEb)
        have HPS := Lib.hid hps
        have HPI := Lib.hid hpi
        have HSL := Lib.hid (SlN.oneAt (T := 31) wa (.slice a' m' c') ⟨n, kd, c, tg, tm, ps0⟩)
        have hone := entFlat_one (w := W) (ps := [(.slice a' m' c', ⟨n, kd, c, tg, tm, ps0⟩)]) (by intro q hq; obtain rfl := List.mem_singleton.1 hq; exact HUI.out)
        have eb := Lib.hid (ea.trans hEb)
        have e0b := Lib.hid (((((hE1.trans hE2).trans hE3).trans hE).trans hEa).trans hEb)
        clear hps hpi hown
        go_wp2_with (at_builtin; refine wpList_appN_if (by rfl) (.tmp 67) (.tmp 69) te rfl rfl rfl O2.out HSL.out hone hk1 hk2 e0b.out.size ?_; intro v9 w9 hown9 hg9)
        have hg9 : (wa.alloc (.cells #[.int .i64 n, .int .i64 kd, .slice a' m' c', .int .i64 tg, .int .i64 tm, .int .i64 ps0] 31)).grownBy w9 (Value.slice a1 l.length c1).ownBlock := hg9
        have hE9 : Ext W w9 := Below.grown eb.out hg9 eb.out.size (fun j hj => Nat.le_trans hE0.size (O2.out.lt j hj).1)
        have hE09 : Ext (W.alloc (.cells #[.int .i64 n, .int .i64 kd, .slice a' m' c', .int .i64 tg, .int .i64 tm, .int .i64 ps0] 26)) w9 := Below.grown e0b.out hg9  e0b.out.size (fun j hj => (O2.out.lt j hj).1)
        have HS := Lib.hid ((OwnEnts.snoc (e := ⟨n, kd, c, tg, tm, ps0⟩) HPS.out HPI.out (HUI.out.below hE0) hown9).ents hE09)
        refine (HCH.out _ _ HS.out).mono ?_
        rintro e wb ⟨rfl, hEb2⟩
        have hkb := HKB.out
        have hbb := HBB.out
        clear hown9 hg9 y0 y1 y2 y3 y4 y5
        go_wp2_with fail
        go_ret
        exact ⟨rfl, hE9.trans hEb2⟩
    subst hn
    by_cases k1 : kd = 1
    rotate_left
    · obtain rfl : B = true := by rw [← HB.out]; exact HFI.out.2 ⟨hr, rfl, fun h => absurd h k1⟩
      have hkd : (kd == 1) = false := beq_eq_false_iff_ne.2 k1
      clear hr
      go_enter Try.func9, Try.ntmps9
      go_wp2_with fail
      refine (own5_any _ l _ (HV.out.below hE0) h64).mono ?_
      rintro e w1 ⟨u1, rfl, ho1, hE1⟩
      have HO1 := Lib.hid ho1
      obtain ⟨a1, c1, rfl⟩ := ho1.isSlice
      clear ho1
      have e1 := hE0.trans hE1
      go_wp2_with fail
      refine (chain5_any _ l _ (HO1.out.ents hE1)).mono ?_
      rw [HG3.out]
      rintro e w2 ⟨rfl, hE2⟩
      have e2 := e1.trans hE2
      have A2 := Lib.hid ((HA0.out.ext hE1).ext hE2)
      obtain ⟨y0, y1, y2, y3, y4, y5⟩ := A2.out.cells
      go_wp2_with fail
      clear y0 y1 y2 y3 y4 y5
      refine (right5_any _ ⟨(l.length : Int) + 1, kd, c, tg, tm, ps0⟩ _ (HU.out.below e2)).mono ?_
      rw [HR.out]
      rintro e w3 ⟨rfl, hE3⟩
      have e3 := e2.trans hE3
      have A3 := Lib.hid (A2.out.ext hE3)
      obtain ⟨y0, y1, y2, y3, y4, y5⟩ := A3.out.cells
      go_wp2_with fail
      clear y0 y1 y2 y3 y4 y5
      go_loopw [6, 7] (fun mm i wr => mm = .bool true ∧ i = .int .i64 (prevI l.length) ∧ Ext w3 wr) (fun _ _ _ => 0)
      case atStart => exact ⟨rfl, by unfold prevI; rfl, Ext.refl _⟩
      case round =>
        obtain ⟨rfl, rfl, hE⟩ := hrel
        have hi : prevI l.length = ((l.length - 1 : Nat) : Int) := by unfold prevI; omega
        rw [hi]
        have A4 := Lib.hid (A3.out.ext hE)
        obtain ⟨y0, y1, y2, y3, y4, y5⟩ := A4.out.cells
        have O4 := Lib.hid (((HO1.out.ext hE2).ext hE3).ext hE)
        have e4 := e3.trans hE
        go_wp2_with fail
        clear y0 y1 y2 y3 y4 y5
        refine (entAlive_any _).mono ?_
        rintro e wa ⟨rfl, hEa⟩
        have ea := e4.trans hEa
        have Aa := Lib.hid (A4.out.ext hEa)
        have Oa := Lib.hid (O4.out.ext hEa)
        obtain ⟨y0, y1, y2, y3, y4, y5⟩ := Aa.out.cells
        obtain ⟨ps, hps, hpi, hown⟩ := Oa.out
        have hEb : Ext wa (wa.alloc (.cells #[.int .i64 ((l.length : Int) + 1), .int .i64 kd, .slice a' m' c', .int .i64 tg, .int .i64 tm, .int .i64 ps0] 31)) := Ext.alloc _ _
        have O2 := Lib.hid (rowExt hown hEb)
        have HPS := Lib.hid hps
        have HPI := Lib.hid hpi
        have HSL := Lib.hid (SlN.oneAt (T := 31) wa (.slice a' m' c') ⟨(l.length : Int) + 1, kd, c, tg, tm, ps0⟩)
        have hone := entFlat_one (w := W) (ps := [(.slice a' m' c', ⟨(l.length : Int) + 1, kd, c, tg, tm, ps0⟩)]) (by intro q hq; obtain rfl := List.mem_singleton.1 hq; exact HUI.out)
        have eb := Lib.hid (ea.trans hEb)
        have e0b := Lib.hid (((((hE1.trans hE2).trans hE3).trans hE).trans hEa).trans hEb)
        clear hps hpi hown
        go_wp2_with (at_builtin; refine wpList_appN_if (by rfl) (.tmp 67) (.tmp 69) te rfl rfl rfl O2.out HSL.out hone hk1 hk2 e0b.out.size ?_; intro v9 w9 hown9 hg9)
        have hg9 : (wa.alloc (.cells #[.int .i64 ((l.length : Int) + 1), .int .i64 kd, .slice a' m' c', .int .i64 tg, .int .i64 tm, .int .i64 ps0] 31)).grownBy w9 (Value.slice a1 l.length c1).ownBlock := hg9
        have hE9 : Ext W w9 := Below.grown eb.out hg9 eb.out.size (fun j hj => Nat.le_trans hE0.size (O2.out.lt j hj).1)
        have hE09 : Ext (W.alloc (.cells #[.int .i64 ((l.length : Int) + 1), .int .i64 kd, .slice a' m' c', .int .i64 tg, .int .i64 tm, .int .i64 ps0] 26)) w9 := Below.grown e0b.out hg9  e0b.out.size (fun j hj => (O2.out.lt j hj).1)
        have HS := Lib.hid ((OwnEnts.snoc (e := ⟨(l.length : Int) + 1, kd, c, tg, tm, ps0⟩) HPS.out HPI.out (HUI.out.below hE0) hown9).ents hE09)
        refine (HCH.out _ _ HS.out).mono ?_
        rintro e wb ⟨rfl, hEb2⟩
        have hkb := HKB.out
        have hbb := HBB.out
        clear hown9 hg9 y0 y1 y2 y3 y4 y5
        go_wp2_with fail
        go_ret
        exact ⟨rfl, hE9.trans hEb2⟩
    subst k1
    go_enter Try.func9, Try.ntmps9
    go_wp2_with fail
    refine (own5_any _ l _ (HV.out.below hE0) h64).mono ?_
    rintro e w1 ⟨u1, rfl, ho1, hE1⟩
    have HO1 := Lib.hid ho1
    obtain ⟨a1, c1, rfl⟩ := ho1.isSlice
    clear ho1
    have e1 := hE0.trans hE1
    go_wp2_with fail
    refine (chain5_any _ l _ (HO1.out.ents hE1)).mono ?_
    rw [HG3.out]
    rintro e w2 ⟨rfl, hE2⟩
    have e2 := e1.trans hE2
    have A2 := Lib.hid ((HA0.out.ext hE1).ext hE2)
    obtain ⟨y0, y1, y2, y3, y4, y5⟩ := A2.out.cells
    go_wp2_with fail
    clear y0 y1 y2 y3 y4 y5
    refine (right5_any _ ⟨(l.length : Int) + 1, 1, c, tg, tm, ps0⟩ _ (HU.out.below e2)).mono ?_
    rw [HR.out]
    rintro e w3 ⟨rfl, hE3⟩
    have e3 := e2.trans hE3
    have A3 := Lib.hid (A2.out.ext hE3)
    obtain ⟨y0, y1, y2, y3, y4, y5⟩ := A3.out.cells
    go_wp2_with fail
    clear y0 y1 y2 y3 y4 y5
    generalize hq : W.heap.size = q at *
    have HQ := Lib.hid hq
    clear hq
    go_loopw [6, 7] (fun mm i wr => ∃ j : Nat, j ≤ l.length ∧ mm = .bool true ∧ i = .int .i64 (prevI j) ∧ Hid (∀ x ∈ l.drop j, x.kind ≠ 1) ∧ Ext w3 wr) (fun _ i _ => (intOf i + 1).toNat)
    case atStart => exact ⟨l.length, Nat.le_refl _, rfl, by unfold prevI; rfl, Lib.hid (fun x hx => by rw [List.drop_length] at hx; cases hx), Ext.refl _⟩
    case round =>
      obtain ⟨j, hj, rfl, rfl, hbe, hE⟩ := hrel
      have A4 := Lib.hid (A3.out.ext hE)
      have O4 := Lib.hid (((HO1.out.ext hE2).ext hE3).ext hE)
      have e4 := e3.trans hE
      obtain ⟨y0, y1, y2, y3, y4, y5⟩ := A4.out.cells
      cases j with
      | zero =>
        have hi : prevI 0 = -1 := rfl
        rw [hi]
        obtain rfl : B = true := by rw [← HB.out]; exact HFI.out.2 ⟨HR.out, by first | trivial | rfl, fun _ => by rw [Ent.lastCut_drop hbe.out]; rfl⟩
        go_wp2_with fail
        clear y0 y1 y2 y3 y4 y5
        refine (entAlive_any _).mono ?_
        rintro e wa ⟨rfl, hEa⟩
        have ea := e4.trans hEa
        have Aa := Lib.hid (A4.out.ext hEa)
        have Oa := Lib.hid (O4.out.ext hEa)
        obtain ⟨y0, y1, y2, y3, y4, y5⟩ := Aa.out.cells
        obtain ⟨ps, hps, hpi, hown⟩ := Oa.out
        have hEb : Ext wa (wa.alloc (.cells #[.int .i64 ((l.length : Int) + 1), .int .i64 1, .slice a' m' c', .int .i64 tg, .int .i64 tm, .int .i64 ps0] 31)) := Ext.alloc _ _
        have O2 := Lib.hid (rowExt hown hEb)
        have HPS := Lib.hid hps
        have HPI := Lib.hid hpi
        have HSL := Lib.hid (SlN.oneAt (T := 31) wa (.slice a' m' c') ⟨(l.length : Int) + 1, 1, c, tg, tm, ps0⟩)
        have hone := entFlat_one (w := W) (ps := [(.slice a' m' c', ⟨(l.length : Int) + 1, 1, c, tg, tm, ps0⟩)]) (by intro q hq; obtain rfl := List.mem_singleton.1 hq; exact HUI.out)
        have eb := Lib.hid (ea.trans hEb)
        have e0b := Lib.hid (((((hE1.trans hE2).trans hE3).trans hE).trans hEa).trans hEb)
        clear hps hpi hown
        go_wp2_with (at_builtin; refine wpList_appN_if (by rfl) (.tmp 67) (.tmp 69) te rfl rfl rfl O2.out HSL.out hone hk1 hk2 e0b.out.size ?_; intro v9 w9 hown9 hg9)
        have hg9 : (wa.alloc (.cells #[.int .i64 ((l.length : Int) + 1), .int .i64 1, .slice a' m' c', .int .i64 tg, .int .i64 tm, .int .i64 ps0] 31)).grownBy w9 (Value.slice a1 l.length c1).ownBlock := hg9
        have hE9 : Ext W w9 := Below.grown eb.out hg9 eb.out.size (fun j hj => Nat.le_trans hE0.size (O2.out.lt j hj).1)
        have hE09 : Ext (W.alloc (.cells #[.int .i64 ((l.length : Int) + 1), .int .i64 1, .slice a' m' c', .int .i64 tg, .int .i64 tm, .int .i64 ps0] 26)) w9 := Below.grown e0b.out hg9  e0b.out.size (fun j hj => (O2.out.lt j hj).1)
        have HS := Lib.hid ((OwnEnts.snoc (e := ⟨(l.length : Int) + 1, 1, c, tg, tm, ps0⟩) HPS.out HPI.out (HUI.out.below hE0) hown9).ents hE09)
        refine (HCH.out _ _ HS.out).mono ?_
        rintro e wb ⟨rfl, hEb2⟩
        have hkb := HKB.out
        have hbb := HBB.out
        clear hown9 hg9 y0 y1 y2 y3 y4 y5
        go_wp2_with fail
        go_ret
        exact ⟨rfl, hE9.trans hEb2⟩
      | succ j =>
        have hi : prevI (j + 1) = (j : Int) := by unfold prevI; omega
        rw [hi]
        have hi2 : ∀ x : Value, x = .int .i64 ((j : Int) - 1) → x = .int .i64 (prevI j) := fun x h => h
        have hlt : j < l.length := by omega
        obtain ⟨a9, cap9, e9, _, _, _, hc9⟩ := HV.out.below e4
        obtain ⟨b, off, rfl, tj, p0, p1, p2, p3, p4, p5, htj⟩ := hc9 j hlt
        injection e9 with e91 e92 e93
        subst e91
        clear hc9 e92 e93
        obtain ⟨a3, cap3, rfl, hcap3, hmax3, _, _⟩ := htj.open
        have hat := fun hk => Ent.lastCut_at l j hlt hk hbe.out
        have hdk := fun hk => Ent.drop_kinds hlt hk hbe.out
        have HTJ := Lib.hid htj
        generalize l[j] = R at *
        obtain ⟨nj, kj, cj, tgj, mj, pj⟩ := R
        simp only at *
        have HAT := Lib.hid hat
        have HDK := Lib.hid hdk
        clear hat hdk htj
        by_cases kj1 : kj = 1
        · subst kj1
          have HVV := Lib.hid (show Vec.covers c cj = B by rw [← HB.out, Ent.follows_of l _ HR.out rfl, HAT.out rfl]; rfl)
          have HP2 := Lib.hid p2
          have hlt2 : b < wr.heap.size := World.block_lt_of_cell? _ _ p2
          have HC := Lib.hid ((HUI.out.below e4))
          go_wp2_with fail
          clear y0 y1 y2 y3 y4 y5 p0 p1 p2 p3 p4 p5
          refine wp_region_facts (by kernel_rfl) Ext (fun iop v w => match iop with
              | 0 => v = .pointer (some ⟨q, 2, none⟩)
              | 1 => v = .slice a' m' c'
              | 2 => v = .slice (some ⟨b, off, none⟩) l.length cap
              | 3 => v = .int .i64 (j : Int)
              | 4 => v = .pointer (some ⟨b, off + j * 6, none⟩)
              | 5 => v = .pointer (some ⟨b, off + j * 6 + 2, none⟩)
              | 6 => v = .slice a3 cj.length cap3
              | 7 => v = .bool B
              | _ => v = .bool B
              ) (by kernel_rfl) (fun _ _ _ h k => Ext.trans h k) (fun a => Ext.refl a) (Ext.drew _) ?_ ?_ ?_
          · intro iop v wa wb hF hL
            cases iop with
            | zero => exact hF
            | succ iop =>
              cases iop with
              | zero => exact hF
              | succ iop =>
                cases iop with
                | zero => exact hF
                | succ iop =>
                  cases iop with
                  | zero => exact hF
                  | succ iop =>
                    cases iop with
                    | zero => exact hF
                    | succ iop =>
                      cases iop with
                      | zero => exact hF
                      | succ iop =>
                        cases iop with
                        | zero => exact hF
                        | succ iop =>
                          cases iop with
                          | zero => exact hF
                          | succ iop =>
                            exact hF
          · refine Obls.cons ?_ (Obls.cons ?_ (Obls.cons ?_ (Obls.cons ?_ (Obls.cons ?_ (Obls.cons ?_ (Obls.cons ?_ (Obls.cons ?_ (Obls.cons ?_ (Obls.nil)))))))))
            · intro ev wy hp hl hk hd
              have e3 : ev (.tmp 3) = .pointer (some ⟨q, 0, none⟩) := hk 3 (by decide)
              clear hk
              clear hd
              exact Yield.op (v := .pointer (some ⟨q, 2, none⟩)) (w' := wy) (by simp [execOp, go_sem, e3]) ⟨Ext.refl _, rfl⟩
            · intro ev wy hp hl hk hd
              have e57 : ev (.tmp 57) = .pointer (some ⟨q, 2, none⟩) := hk 57 (by decide)
              clear hk
              clear hd
              exact Yield.load rfl e57 (ldInts (A4.out.ext hl).cells.2.2.1) ⟨Ext.refl _, rfl⟩
            · intro ev wy hp hl hk hd
              have e0 : ev (.tmp 0) = .slice (some ⟨b, off, none⟩) l.length cap := hk 0 (by decide)
              clear hk
              clear hd
              exact Yield.mv rfl ⟨Ext.refl _, e0⟩
            · intro ev wy hp hl hk hd
              have e7 : ev (.tmp 7) = .int .i64 (j : Int) := hk 7 (by decide)
              clear hk
              clear hd
              exact Yield.mv rfl ⟨Ext.refl _, e7⟩
            · intro ev wy hp hl hk hd
              have e59 : ev (.tmp 59) = .slice (some ⟨b, off, none⟩) l.length cap := hk 59 (by decide)
              have e60 : ev (.tmp 60) = .int .i64 (j : Int) := hk 60 (by decide)
              clear hk
              clear hd
              exact Yield.op (w' := wy) (by simp [execOp, go_sem, e59, e60]; intro h; omega) ⟨Ext.refl _, rfl⟩
            · intro ev wy hp hl hk hd
              have e61 : ev (.tmp 61) = .pointer (some ⟨b, off + j * 6, none⟩) := hk 61 (by decide)
              clear hk
              clear hd
              exact Yield.op (v := .pointer (some ⟨b, off + j * 6 + 2, none⟩)) (w' := wy) (by simp [execOp, go_sem, e61]) ⟨Ext.refl _, rfl⟩
            · intro ev wy hp hl hk hd
              have e62 : ev (.tmp 62) = .pointer (some ⟨b, off + j * 6 + 2, none⟩) := hk 62 (by decide)
              clear hk
              clear hd
              exact Yield.load rfl e62 (ldInts ((hl.cell (p := ⟨b, off + j * 6 + 2, none⟩) hlt2).trans HP2.out)) ⟨Ext.refl _, rfl⟩
            · intro ev wy hp hl hk hd
              have e58 : ev (.tmp 58) = .slice a' m' c' := hk 58 (by decide)
              have e63 : ev (.tmp 63) = .slice a3 cj.length cap3 := hk 63 (by decide)
              clear hk
              clear hd
              refine Yield.call rfl hp Try.func25 rfl (by kernel_rfl) ?_
              simp only [List.map_toArray, List.map_cons, List.map_nil, e58, e63]
              exact ((HVV.out ▸ coversX_any _ _ c cj wy (HC.out.below hl) (HTJ.out.below hl))).mono fun _ _ ⟨he, hb⟩ => ⟨_, he, hb, by first | rfl | simp⟩
            · intro ev wy hp hl hk hd
              have e64 : ev (.tmp 64) = .bool B := hk 64 (by decide)
              clear hk
              clear hd
              exact Yield.as rfl ⟨Ext.refl _, e64⟩
          · intro vals wz hz hv
            have g57 : vals 0 = .pointer (some ⟨q, 2, none⟩) := hv 0 (by decide)
            have g58 : vals 1 = .slice a' m' c' := hv 1 (by decide)
            have g59 : vals 2 = .slice (some ⟨b, off, none⟩) l.length cap := hv 2 (by decide)
            have g60 : vals 3 = .int .i64 (j : Int) := hv 3 (by decide)
            have g61 : vals 4 = .pointer (some ⟨b, off + j * 6, none⟩) := hv 4 (by decide)
            have g62 : vals 5 = .pointer (some ⟨b, off + j * 6 + 2, none⟩) := hv 5 (by decide)
            have g63 : vals 6 = .slice a3 cj.length cap3 := hv 6 (by decide)
            have g64 : vals 7 = .bool B := hv 7 (by decide)
            have g6 : vals 8 = .bool B := hv 8 (by decide)
            clear hv
            simp only [putAll, Act.put, List.setIfInBounds_toArray, List.set_cons_zero, List.set_cons_succ, g57, g58, g59, g60, g61, g62, g63, g64, g6]
            clear g57
            clear g58
            clear g59
            clear g60
            clear g61
            clear g62
            clear g63
            clear g64
            clear g6
            have hE8 := hE.trans hz
            have A8 := Lib.hid (A4.out.ext hz)
            have O8 := Lib.hid (O4.out.ext hz)
            have e8 := e4.trans hz
            clear hE
            have hE := hE8
            go_wp2_with fail
            refine (entAlive_any _).mono ?_
            rintro e wa ⟨rfl, hEa⟩
            have ea := e8.trans hEa
            have Aa := Lib.hid (A8.out.ext hEa)
            have Oa := Lib.hid (O8.out.ext hEa)
            obtain ⟨y0, y1, y2, y3, y4, y5⟩ := Aa.out.cells
            obtain ⟨ps, hps, hpi, hown⟩ := Oa.out
            have hEb : Ext wa (wa.alloc (.cells #[.int .i64 ((l.length : Int) + 1), .int .i64 1, .slice a' m' c', .int .i64 tg, .int .i64 tm, .int .i64 ps0] 31)) := Ext.alloc _ _
            have O2 := Lib.hid (rowExt hown hEb)
            have HPS := Lib.hid hps
            have HPI := Lib.hid hpi
            have HSL := Lib.hid (SlN.oneAt (T := 31) wa (.slice a' m' c') ⟨(l.length : Int) + 1, 1, c, tg, tm, ps0⟩)
            have hone := entFlat_one (w := W) (ps := [(.slice a' m' c', ⟨(l.length : Int) + 1, 1, c, tg, tm, ps0⟩)]) (by intro q hq; obtain rfl := List.mem_singleton.1 hq; exact HUI.out)
            have eb := Lib.hid (ea.trans hEb)
            have e0b := Lib.hid (((((hE1.trans hE2).trans hE3).trans hE).trans hEa).trans hEb)
            clear hps hpi hown
            go_wp2_with (at_builtin; refine wpList_appN_if (by rfl) (.tmp 67) (.tmp 69) te rfl rfl rfl O2.out HSL.out hone hk1 hk2 e0b.out.size ?_; intro v9 w9 hown9 hg9)
            have hg9 : (wa.alloc (.cells #[.int .i64 ((l.length : Int) + 1), .int .i64 1, .slice a' m' c', .int .i64 tg, .int .i64 tm, .int .i64 ps0] 31)).grownBy w9 (Value.slice a1 l.length c1).ownBlock := hg9
            have hE9 : Ext W w9 := Below.grown eb.out hg9 eb.out.size (fun j hj => Nat.le_trans hE0.size (O2.out.lt j hj).1)
            have hE09 : Ext (W.alloc (.cells #[.int .i64 ((l.length : Int) + 1), .int .i64 1, .slice a' m' c', .int .i64 tg, .int .i64 tm, .int .i64 ps0] 26)) w9 := Below.grown e0b.out hg9  e0b.out.size (fun j hj => (O2.out.lt j hj).1)
            have HS := Lib.hid ((OwnEnts.snoc (e := ⟨(l.length : Int) + 1, 1, c, tg, tm, ps0⟩) HPS.out HPI.out (HUI.out.below hE0) hown9).ents hE09)
            refine (HCH.out _ _ HS.out).mono ?_
            rintro e wb ⟨rfl, hEb2⟩
            have hkb := HKB.out
            have hbb := HBB.out
            clear hown9 hg9 y0 y1 y2 y3 y4 y5
            go_wp2_with fail
            go_ret
            exact ⟨rfl, hE9.trans hEb2⟩
        · have hkb2 : (kj == 1) = false := beq_eq_false_iff_ne.2 kj1
          have HD := Lib.hid (HDK.out kj1)
          go_wp2_with fail
          go_roundw
          case rel => exact ⟨j, by omega, rfl, hi2 _ (by go_num), HD, hE⟩
          case measure => simp [intOf]

namespace entryNext
theorem own : ownKnob Try.prog.godebug = none := by kernel_rfl
theorem laidOut : laidOutB Try.prog = true := by kernel_rfl
set_option linter.unusedVariables false in
set_option maxRecDepth 100000 in
theorem lifted (os : Os) (started : os.Started) (H : Type) (enc : TypeId × Value → H) :
    ReturnsInHanded {} Try.checked os 9 .any (Rows.entryNextSpec.pre6 enc Try.prog Try.f9 Rows.entryNextRow.domain false) (Rows.entryNextSpec.post enc Try.prog Try.f9 false true false false) := by
  refine returnsInHanded_of_change_sized (C := Try.checked) own started (by kernel_rfl) Try.func9
    (ChangeSpec.witness6 (enc := enc) (C := Try.checked) false ⟨#[], #[.slice none 0 0, .agg #[.int .i64 0, .int .i64 0, .slice none 0 0, .int .i64 0, .int .i64 0, .int .i64 0]], []⟩ 8 (by kernel_rfl) (by kernel_rfl) (by kernel_rfl) (by kernel_rfl)) ?_
  intro W base args ds gs before hval0 hW hcnd hsz _
  have hval : ∀ (j : Nat) t v, Try.f9.params[j]? = some t → args[j]? = some v → Value.okWide Try.prog W .any base t v := hval0
  have hW' := hW
  obtain ⟨p, q, hA0, hV, rfl, hfz, hnd⟩ := hW'
  have hA : DataW.TrodAll enc Try.prog W 0 (fun _ => true) true Try.f9.params.toList args.toList ds p := hA0
  rw [Try.params9] at hA hval
  obtain ⟨v0, vs0, d0, ds0, p0, q0, hargs, rfl, rfl, h0, r0⟩ := trodAll_cons hA
  obtain ⟨v1, vs1, d1, ds1, p1, q1, rfl, rfl, rfl, h1, r1⟩ := trodAll_cons r0
  obtain ⟨rfl, rfl, rfl⟩ := trodAll_nil r1
  obtain rfl : args = #[v0, v1] := by cases args; simp_all
  obtain ⟨rfl, rfl⟩ := trodVars_none hV
  have k0 := h0
  have lt0 : ∀ x ∈ p0, x.block < W.heap.size := by obtain ⟨m, hm⟩ := k0; exact DataW.trod_lt m _ _ _ hm
  obtain ⟨a0, len0, cap0, rfl⟩ := okWide_slice Try.underlying43 (hval 0 43 v0 rfl rfl)
  obtain ⟨l0, w0⟩ : ∃ l, Ents W (.slice a0 len0 cap0) l := by
    obtain ⟨fuel, hf⟩ := h0
    obtain ⟨v, l, hcs, hb⟩ := ents_of_raw hf
    simp [Value.cells] at hcs
    subst hcs
    exact ⟨l, hb⟩
  have sz0 : len0 * 64 ≤ 140737488351232 := by obtain ⟨fuel, hf⟩ := h0; exact reach_of_raw (P := Try.prog) (x := (d0, p0)) (j := 0) hsz (by rw [Try.params9]; rfl) rfl Try.underlying43 (by kernel_rfl) hf
  have k1 := h1
  have lt1 : ∀ x ∈ p1, x.block < W.heap.size := by obtain ⟨m, hm⟩ := k1; exact DataW.trod_lt m _ _ _ hm
  obtain ⟨l1, w1⟩ := ent_arg (hval 1 26 v1 rfl rfl) h1
  clear hA0 hval0
  refine (entryNext_walk _ v1 l0 l1 W w0 w1 (by obtain ⟨aa, cc, h, _⟩ := w0.shape; injection h with _ h _; omega)).mono fun e W' ⟨he, bel⟩ => ?_
  subst he
  exact ⟨_, rfl, _, _, _, [], _, [], hW, trodAll_mk1 (shut_bool Try.underlying4 _), (trodAll_cons_mk (Below.trod laidOut (by kernel_rfl) (of_decide_eq_true (by kernel_rfl)) k0 bel lt0) (trodAll_cons_mk (Below.trod laidOut (by kernel_rfl) (of_decide_eq_true (by kernel_rfl)) k1 bel lt1) trodAll_mk0)), rfl, bel.frame _, fun h => by cases h⟩
theorem over : Rows.entryNextRow.holds Try.pinned (OpenSpec.ofChange Rows.entryNextSpec) :=
  OpenClaim.holds_of_wide 9 Try.f9 rfl rfl rfl rfl rfl rfl rfl ⟨rfl, rfl, rfl, rfl, rfl⟩ rfl rfl rfl rfl rfl (by kernel_rfl) Try.func9 (by kernel_rfl)
    (of_decide_eq_true (by kernel_rfl)) (by unfold Func.isWrapper; first | (rw [if_pos (by decide +kernel)]; kernel_rfl) | (rw [if_neg (by decide +kernel)]; exact ⟨rfl, rfl⟩))
    (fun os started H enc _ => lifted os started H enc)
theorem proved : Rows.EntryNextSaid := over
end entryNext
end Go.Proofs.Ytboopfbflfimlaa
