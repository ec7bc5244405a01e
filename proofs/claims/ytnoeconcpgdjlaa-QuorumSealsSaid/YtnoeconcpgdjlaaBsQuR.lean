/-
  Merged: Layer 12: the document's sealer: its parts.
-/
import Derived.Test.YtnoeconcpgdjlaaBsEnt
import Derived.Test.YtnoeconcpgdjlaaBsLib
import Derived.Test.YtnoeconcpgdjlaaBsQuL

namespace Go.Proofs.Ytnoeconcpgdjlaa
set_option linter.unusedSimpArgs false
set_option linter.unusedVariables false
set_option maxRecDepth 100000
open Go.RowKit
/- Layer 12: the document's sealer: its parts; agrees. -/
/-- Parts: a node, its entries' value, its entries. -/
abbrev Part12 := Int × Value × List Ent.E
def partFlat (ps : List Part12) : List Value := ps.flatMap fun p => [.int .i64 p.1, p.2.1]
def pparts (ps : List Part12) : List (Int × List Ent.E) := ps.map fun p => (p.1, p.2.2)
theorem partFlat_append (ps qs : List Part12) : partFlat (ps ++ qs) = partFlat ps ++ partFlat qs := by simp [partFlat]
theorem partFlat_length (ps : List Part12) : (partFlat ps).length = ps.length * 2 := by
  induction ps with
  | nil => rfl
  | cons p ps ih =>
    show (partFlat ps).length + 1 + 1 = _
    rw [ih, List.length_cons]
    omega
theorem partFlat_at : ∀ (ps : List Part12) (i j : Nat) (hi : i < ps.length), j < 2 → (partFlat ps)[i * 2 + j]? = [Value.int .i64 ps[i].1, ps[i].2.1][j]? := by
  intro ps
  induction ps with
  | nil => intro i j hi; exact absurd hi (by simp)
  | cons p ps ih =>
    intro i j hi hj
    cases i with
    | zero =>
      match j, hj with
      | 0, _ => rfl
      | 1, _ => rfl
    | succ i =>
      have h1 := ih i j (by simpa using hi) hj
      have e1 : (i + 1) * 2 + j = (i * 2 + j) + 1 + 1 := by omega
      rw [e1]
      exact h1
def Pts12 (w : World) (v : Value) (ps : List Part12) : Prop := SlN 2 w v ps.length (partFlat ps) ∧ ∀ p ∈ ps, Ents w p.2.1 p.2.2
theorem Pts12.below {w w' : World} {v : Value} {ps : List Part12} (h : Pts12 w v ps) (hb : Below w.heap.size w w') : Pts12 w' v ps := ⟨h.1.below hb, fun p hp => (h.2 p hp).below hb⟩
theorem Pts12.nil (w : World) : Pts12 w (.slice none 0 0) [] := ⟨SlN.ofOwn (World.ownsRow_nil w w.heap.size 29 2), fun p hp => absurd hp (by simp)⟩
theorem Pts12.open {w : World} {v : Value} {ps : List Part12} (h : Pts12 w v ps) : ∃ a c, v = .slice a ps.length c ∧ ps.length ≤ c ∧ c ≤ 9223372036854775807 := by
  obtain ⟨a, c, e, h1, h2, _⟩ := h.1
  exact ⟨a, c, e, h1, h2⟩
theorem Pts12.at {w : World} {a : Option Addr} {n c : Nat} {ps : List Part12} (h : Pts12 w (.slice a n c) ps) (i : Nat) (hi : i < ps.length) : ∃ b off, a = some ⟨b, off, none⟩ ∧ w.cell? ⟨b, off + i * 2, none⟩ = some (.int .i64 ps[i].1) ∧ w.cell? ⟨b, off + i * 2 + 1, none⟩ = some ps[i].2.1 := by
  obtain ⟨a', c', e, _, _, _, hl, hc⟩ := h.1
  injection e with e1 _ _
  subst e1
  have h0 := partFlat_at ps i 0 hi (by omega)
  have h1 := partFlat_at ps i 1 hi (by omega)
  obtain ⟨b, off, e, c0⟩ := hc (i * 2 + 0) (by rw [partFlat_length]; omega)
  subst e
  obtain ⟨b', off', e, c1⟩ := hc (i * 2 + 1) (by rw [partFlat_length]; omega)
  injection e with e
  injection e with e1 e2
  subst e1 e2
  rw [List.getElem?_eq_getElem (by rw [partFlat_length]; omega)] at h0 h1
  exact ⟨b, off, rfl, by rw [show off + i * 2 = off + (i * 2 + 0) by omega, c0]; exact h0, by rw [show off + i * 2 + 1 = off + (i * 2 + 1) by omega, c1]; exact h1⟩
theorem Ents.at12 {w : World} {a : Option Addr} {n c : Nat} {l : List Ent.E} (h : Ents w (.slice a n c) l) (k : Nat) (hk : k < l.length) : ∃ b off t1 t2 t3, a = some ⟨b, off, none⟩ ∧ Ints w (.slice t1 t2 t3) l[k].cut ∧ ∀ w', Ext w w' → (Instr.loadAt 64 (.pointer (some ⟨b, off + k * 6, none⟩))).run Try.prog w' = .ok (.agg (entCells12 (.slice t1 t2 t3) l[k])) w' := by
  obtain ⟨a', c', e, _, _, _, hc⟩ := h
  injection e with e1 _ _
  subst e1
  obtain ⟨b, off, e, t, p0, p1, p2, p3, p4, p5, ht⟩ := hc k hk
  obtain ⟨t1, t2, t3, rfl⟩ := intsSlice ht
  exact ⟨b, off, t1, t2, t3, e, ht, fun w' hE => by simp [go_sem, entCells12, cellE hE p0, cellE hE p1, cellE hE p2, cellE hE p3, cellE hE p4, cellE hE p5]⟩
theorem agreesNot12 {a b : List Ent.E} {k : Nat} (ha : k < a.length) (hb : k < b.length) (h : a[k] ≠ b[k]) : Quo.agrees a b = false := by
  unfold Quo.agrees
  refine decide_eq_false fun e => h ?_
  have h1 := congrArg (fun l : List Ent.E => l[k]?) e
  simp only [List.getElem?_take] at h1
  rw [if_pos (by omega), if_pos (by omega), List.getElem?_eq_getElem ha, List.getElem?_eq_getElem hb] at h1
  injection h1
theorem agreesIs12 {a b : List Ent.E} (h : ∀ i (h1 : i < a.length) (h2 : i < b.length), a[i] = b[i]) : Quo.agrees a b = true := by
  unfold Quo.agrees
  refine decide_eq_true (List.ext_getElem (by simp [List.length_take]) fun i h1 h2 => ?_)
  rw [List.getElem_take, List.getElem_take]
  have h3 : i < a.length := by rw [List.length_take] at h1; omega
  have h4 : i < b.length := by rw [List.length_take] at h2; omega
  exact h i h3 h4
set_option maxHeartbeats 8000000 in
theorem agrees12_any (v u : Value) (l m : List Ent.E) (w : World) (hv : Ents w v l) (hu : Ents w u m) :
    Calls Try.prog 35 #[v, u] w fun e w' => e = .returned (.bool (Quo.agrees l m)) ∧ Ext w w' := by
  have HV := Lib.hid hv
  have HU := Lib.hid hu
  obtain ⟨a, ca, rfl, h1, h2⟩ := hv.shape
  obtain ⟨b, cb, rfl, k1, k2⟩ := hu.shape
  obtain ⟨n, hn⟩ : ∃ n, l.length = n := ⟨_, rfl⟩
  obtain ⟨n2, hn2⟩ : ∃ n, m.length = n := ⟨_, rfl⟩
  rw [hn] at HV h1 ⊢
  rw [hn2] at HU k1 ⊢
  have HN := Lib.hid (And.intro hn hn2)
  obtain ⟨bb, hbb⟩ : ∃ z, Quo.agrees l m = z := ⟨_, rfl⟩
  rw [hbb]
  have HBB := Lib.hid hbb
  clear hv hu hn hn2 hbb
  go_enter Try.func35, Try.ntmps35
  go_wp2_with fail
  go_loopw [5] (fun i wr => ∃ k : Nat, k ≤ n ∧ k ≤ n2 ∧ i = .int .i64 k ∧ Hid (Ext w wr ∧ ∀ i, i < k → ∀ (h1 : i < l.length) (h2 : i < m.length), l[i] = m[i])) (fun i _ => n - (intOf i).toNat)
  case atStart => exact ⟨0, by omega, by omega, rfl, Lib.hid ⟨Ext.refl _, fun i h => absurd h (by omega)⟩⟩
  case round =>
    obtain ⟨k, hk, hk2, rfl, hI⟩ := hrel
    obtain ⟨wt, hwt⟩ : ∃ z, z = wr := ⟨_, rfl⟩
    subst hwt
    by_cases hlt : k < n
    case neg =>
      have HT := Lib.hid (show bb = true by rw [← HBB.out]; exact agreesIs12 fun i h1 h2 => hI.out.2 i (by have := HN.out.1; omega) h1 h2)
      go_wp2_with fail
      go_ret
      exact ⟨by rw [HT.out]; rfl, hI.out.1⟩
    case pos =>
    by_cases hlt2 : k < n2
    case neg =>
      have HT := Lib.hid (show bb = true by rw [← HBB.out]; exact agreesIs12 fun i h1 h2 => hI.out.2 i (by have := HN.out.2; omega) h1 h2)
      go_wp2_with fail
      go_ret
      exact ⟨by rw [HT.out]; rfl, hI.out.1⟩
    case pos =>
    have hkl : k < l.length := by rw [HN.out.1]; exact hlt
    have hkm : k < m.length := by rw [HN.out.2]; exact hlt2
    obtain ⟨b1, o1, t1, t2, t3, ea, hta, hla⟩ := (HV.out.below hI.out.1).at12 k hkl
    obtain ⟨b2, o2, u1, u2, u3, eb, htb, hlb⟩ := (HU.out.below hI.out.1).at12 k hkm
    subst ea eb
    obtain ⟨A, hA⟩ : ∃ A, l[k] = A := ⟨_, rfl⟩
    obtain ⟨B, hB⟩ : ∃ B, m[k] = B := ⟨_, rfl⟩
    rw [hA] at hta hla
    rw [hB] at htb hlb
    obtain ⟨AV, hAV⟩ : ∃ z : Value, .agg (entCells12 (.slice t1 t2 t3) A) = z := ⟨_, rfl⟩
    obtain ⟨BV, hBV⟩ : ∃ z : Value, .agg (entCells12 (.slice u1 u2 u3) B) = z := ⟨_, rfl⟩
    rw [hAV] at hla
    rw [hBV] at hlb
    obtain ⟨cc, hcc⟩ : ∃ z, Ent.alike A B = z := ⟨_, rfl⟩
    have HLA := Lib.hid hla
    have HLB := Lib.hid hlb
    have HSM := Lib.hid (show ∀ w', Ext wt w' → Calls Try.prog 41 #[AV, BV] w' fun e w'' => e = .returned (.bool cc) ∧ Ext w' w'' from fun w' h => by
      have := refSame5_any AV BV A B w' ⟨_, hAV.symm, hta.below h⟩ ⟨_, hBV.symm, htb.below h⟩
      rw [hcc] at this
      exact this)
    have HCC := Lib.hid (And.intro hkl (And.intro hkm (And.intro hcc (And.intro hA hB))))
    clear hta htb hla hlb hAV hBV hcc hA hB
    go_upto_region 4 with fail
    refine wp_region_facts (by kernel_rfl) Ext (fun iop v w => match iop with
        | 0 => v = .slice (some ⟨b1, o1, none⟩) n ca
        | 1 => v = .int .i64 (k : Nat)
        | 2 => v = .pointer (some ⟨b1, o1 + k * 6, none⟩)
        | 3 => v = AV
        | 4 => v = .slice (some ⟨b2, o2, none⟩) n2 cb
        | 5 => v = .int .i64 (k : Nat)
        | 6 => v = .pointer (some ⟨b2, o2 + k * 6, none⟩)
        | 7 => v = BV
        | 8 => v = .bool cc
        | _ => v = .bool (!cc)
        ) (by kernel_rfl) (fun _ _ _ h k => Ext.trans h k) (fun a => Ext.refl a) (Ext.drew _) ?_ ?_ ?_
    · intro iop v wa wb hF hL
      iterate 9 (rcases iop with _ | iop; exact hF)
      exact hF
    · refine Obls.cons ?_ (Obls.cons ?_ (Obls.cons ?_ (Obls.cons ?_ (Obls.cons ?_ (Obls.cons ?_ (Obls.cons ?_ (Obls.cons ?_ (Obls.cons ?_ (Obls.cons ?_ (Obls.nil))))))))))
      · intro ev wy hp hl hk hd
        have e0 : ev (.tmp 0) = .slice (some ⟨b1, o1, none⟩) n ca := hk 0 (by decide)
        clear hk hd
        exact Yield.mv rfl ⟨Ext.refl _, e0⟩
      · intro ev wy hp hl hk hd
        have e5 : ev (.tmp 5) = .int .i64 (k : Nat) := hk 5 (by decide)
        clear hk hd
        exact Yield.mv rfl ⟨Ext.refl _, e5⟩
      · intro ev wy hp hl hk hd
        have e18 : ev (.tmp 18) = .slice (some ⟨b1, o1, none⟩) n ca := hk 18 (by decide)
        have e19 : ev (.tmp 19) = .int .i64 (k : Nat) := hk 19 (by decide)
        clear hk hd
        exact Yield.op (v := .pointer (some ⟨b1, o1 + k * 6, none⟩)) (w' := wy) (by simp [execOp, go_sem, e18, e19, hlt]) ⟨Ext.refl _, rfl⟩
      · intro ev wy hp hl hk hd
        have e20 : ev (.tmp 20) = .pointer (some ⟨b1, o1 + k * 6, none⟩) := hk 20 (by decide)
        clear hk hd
        exact Yield.load rfl e20 (HLA.out wy hl) ⟨Ext.refl _, rfl⟩
      · intro ev wy hp hl hk hd
        have e1 : ev (.tmp 1) = .slice (some ⟨b2, o2, none⟩) n2 cb := hk 1 (by decide)
        clear hk hd
        exact Yield.mv rfl ⟨Ext.refl _, e1⟩
      · intro ev wy hp hl hk hd
        have e5 : ev (.tmp 5) = .int .i64 (k : Nat) := hk 5 (by decide)
        clear hk hd
        exact Yield.mv rfl ⟨Ext.refl _, e5⟩
      · intro ev wy hp hl hk hd
        have e22 : ev (.tmp 22) = .slice (some ⟨b2, o2, none⟩) n2 cb := hk 22 (by decide)
        have e23 : ev (.tmp 23) = .int .i64 (k : Nat) := hk 23 (by decide)
        clear hk hd
        exact Yield.op (v := .pointer (some ⟨b2, o2 + k * 6, none⟩)) (w' := wy) (by simp [execOp, go_sem, e22, e23, hlt2]) ⟨Ext.refl _, rfl⟩
      · intro ev wy hp hl hk hd
        have e24 : ev (.tmp 24) = .pointer (some ⟨b2, o2 + k * 6, none⟩) := hk 24 (by decide)
        clear hk hd
        exact Yield.load rfl e24 (HLB.out wy hl) ⟨Ext.refl _, rfl⟩
      · intro ev wy hp hl hk hd
        have e21 : ev (.tmp 21) = AV := hk 21 (by decide)
        have e25 : ev (.tmp 25) = BV := hk 25 (by decide)
        clear hk hd
        refine Yield.call rfl hp Try.func41 rfl (by kernel_rfl) ?_
        simp only [List.map_toArray, List.map_cons, List.map_nil, e21, e25]
        exact (HSM.out wy hl).mono fun _ _ ⟨he, hb⟩ => ⟨_, he, hb, by first | rfl | simp⟩
      · intro ev wy hp hl hk hd
        have e26 : ev (.tmp 26) = .bool cc := hk 26 (by decide)
        clear hk hd
        exact Yield.op (v := .bool (!cc)) (w' := wy) (by simp [execOp, go_sem, e26]) ⟨Ext.refl _, rfl⟩
    · intro vals wz hz hv
      have g18 : vals 0 = .slice (some ⟨b1, o1, none⟩) n ca := hv 0 (by decide)
      have g19 : vals 1 = .int .i64 (k : Nat) := hv 1 (by decide)
      have g20 : vals 2 = .pointer (some ⟨b1, o1 + k * 6, none⟩) := hv 2 (by decide)
      have g21 : vals 3 = AV := hv 3 (by decide)
      have g22 : vals 4 = .slice (some ⟨b2, o2, none⟩) n2 cb := hv 4 (by decide)
      have g23 : vals 5 = .int .i64 (k : Nat) := hv 5 (by decide)
      have g24 : vals 6 = .pointer (some ⟨b2, o2 + k * 6, none⟩) := hv 6 (by decide)
      have g25 : vals 7 = BV := hv 7 (by decide)
      have g26 : vals 8 = .bool cc := hv 8 (by decide)
      have g27 : vals 9 = .bool (!cc) := hv 9 (by decide)
      clear hv
      simp only [putAll, Act.put, List.setIfInBounds_toArray, List.set_cons_zero, List.set_cons_succ, g18, g19, g20, g21, g22, g23, g24, g25, g26, g27]
      clear g18
      clear g19
      clear g20
      clear g21
      clear g22
      clear g23
      clear g24
      clear g25
      clear g26
      clear g27
      have HZ := Lib.hid hz
      clear hz
      cases cc with
      | false =>
        have HT := Lib.hid (show bb = false by
          rw [← HBB.out]
          refine agreesNot12 HCC.out.1 HCC.out.2.1 fun e => ?_
          have e2 : A = B := HCC.out.2.2.2.1.symm.trans (e.trans HCC.out.2.2.2.2)
          have h1 := HCC.out.2.2.1
          rw [(Ent.alike_iff _ _).2 e2] at h1
          cases h1)
        go_wp2_with fail
        go_ret
        exact ⟨by rw [HT.out]; rfl, hI.out.1.trans HZ.out⟩
      | true =>
        have HNX := Lib.hid (show Ext w wz ∧ ∀ i, i < k + 1 → ∀ (h1 : i < l.length) (h2 : i < m.length), l[i] = m[i] from ⟨hI.out.1.trans HZ.out, fun i hi h1 h2 => by
          rcases Nat.lt_or_ge i k with h | h
          · exact hI.out.2 i h h1 h2
          · obtain rfl : i = k := by omega
            exact HCC.out.2.2.2.1.trans (((Ent.alike_iff _ _).1 HCC.out.2.2.1).trans HCC.out.2.2.2.2.symm)⟩)
        go_wp2_with fail
        go_roundw
        case rel => exact ⟨k + 1, by omega, by omega, by go_num, HNX⟩
        case measure => simp [intOf]; omega
end Go.Proofs.Ytnoeconcpgdjlaa
