/-
  Merged: Layer 3, the program: what asks whether rows of numbers are vectors; Layer 3, the program: what compares rows of numbers, and adds them up; Layer 3, the program: a vector as bytes; Rows of rows of numbers, all of the call's own; The library's slices; What comes in, as rows of numbers.
-/
import Derived.Test.YtfgjhagfpafmoaaGreatBsLib
import Derived.Test.YtfgjhagfpafmoaaGreatBsMath
import Derived.Test.YtfgjhagfpafmoaaGreatBsPack

set_option linter.unusedSimpArgs false
set_option linter.unusedVariables false

namespace Go.Proofs.YtfgjhagfpafmoaaGreat
open Go.RowKit
/- Layer 3, the program: what asks whether rows of numbers are vectors. -/
theorem tI : ElemOf Tryz.prog 42 3 (.int .i64 0) 8 := ⟨Tryz.underlying42, by kernel_rfl, rfl⟩
theorem i64s_one (l : List Int) : ∀ y ∈ i64s l, y.oneCell' = true := by
  intro y hy
  obtain ⟨_, _, rfl⟩ := List.mem_map.1 hy
  rfl
@[simp] theorem i64s_append (l m : List Int) : i64s (l ++ m) = i64s l ++ i64s m := by simp [i64s]
theorem Ints.isSlice {w : World} {v : Value} {l : List Int} (h : Ints w v l) : ∃ a n c, v = .slice a n c := by
  obtain ⟨a, cap, rfl, _⟩ := h.open
  exact ⟨_, _, _, rfl⟩
theorem Ints.len {w : World} {a : Option Addr} {n c : Nat} {l : List Int} (h : Ints w (.slice a n c) l) : n = l.length ∧ n ≤ c ∧ c ≤ 9223372036854775807 := by
  obtain ⟨_, _, e, h1, h2, _⟩ := h.open
  injection e with e1 e2 e3
  subst e3
  unfold maxLen at h2
  omega
theorem Ints.inj {w : World} {v : Value} {l m : List Int} (h : Ints w v l) (k : Ints w v m) : l = m := by
  obtain ⟨a, cap, rfl, h1, h2, _, h3⟩ := h.open
  obtain ⟨a', cap', e, k1, k2, _, k3⟩ := k.open
  injection e with e1 e2 e3
  subst e1 e3
  refine List.ext_getElem e2 fun i hi hi' => ?_
  obtain ⟨b, off, rfl, hc⟩ := h3 i hi
  obtain ⟨b', off', e', hc'⟩ := k3 i hi'
  injection e' with e'; injection e' with e4 e5
  subst e4 e5
  rw [hc] at hc'
  injection hc' with hc'; injection hc' with _ hc'
/-- A row of numbers of the call's own. -/
def OwnI (w : World) (base : Nat) (v : Value) (l : List Int) : Prop := w.ownsRow base 3 1 v l.length (i64s l)
theorem OwnI.ints {w : World} {base : Nat} {v : Value} {l : List Int} (h : OwnI w base v l) : Ints w v l := Sl.ofOwn h
theorem OwnI.nil (w : World) (base : Nat) : OwnI w base (.slice none 0 0) [] := World.ownsRow_nil _ _ _ _
/-- These, or none. -/
def orNone : Bool → List Int → List Int
  | true, l => l
  | false, _ => []
@[simp] theorem orNone_true (l : List Int) : orNone true l = l := rfl
@[simp] theorem orNone_false (l : List Int) : orNone false l = [] := rfl

/- Layer 3, the program: what compares rows of numbers, and adds them up. -/
theorem list_ne {a b : List Int} (k : Nat) (h1 : k < a.length) (h2 : k < b.length) (h : a[k] ≠ b[k]) : (a == b) = false := by
  rw [beq_eq_false_iff_ne]
  rintro rfl
  exact h rfl
theorem list_same {a b : List Int} (hl : a.length = b.length) (h : ∀ i, i < a.length → ∀ (h1 : i < a.length) (h2 : i < b.length), a[i] = b[i]) : (a == b) = true := by
  rw [beq_iff_eq]
  exact List.ext_getElem hl fun i h1 h2 => h i h1 h1 h2
theorem list_other {a b : List Int} (hl : ¬ a.length = b.length) : (a == b) = false := by
  rw [beq_eq_false_iff_ne]
  rintro rfl
  exact hl rfl

set_option maxRecDepth 100000 in
set_option maxHeartbeats 1000000 in
theorem equalS_any (v u : Value) (ns ms : List Int) (w : World) (hv : Ints w v ns) (hu : Ints w u ms) :
    Calls Tryz.prog 101 #[v, u] w fun e w' => e = .returned (.bool (ns == ms)) ∧ Ext w w' := by
  have HV := Lib.hid hv
  have HU := Lib.hid hu
  obtain ⟨a, cap, rfl, hcap, hmax, _, hc⟩ := hv.open
  obtain ⟨a2, cap2, rfl, hcap2, hmax2, _, hc2⟩ := hu.open
  unfold maxLen at hmax hmax2
  clear hv hu
  by_cases hl : ns.length = ms.length
  · have h1' : ((ns.length : Int) == (ms.length : Int)) = true := by rw [hl]; simp
    have HC := Lib.hid hc
    have HC2 := Lib.hid hc2
    have HL := Lib.hid hl
    clear hc hc2 hl
    go_enter Tryz.func101, Tryz.ntmps101
    go_wp2_with fail
    go_loopw [5, 13] (fun _ i wr => ∃ k : Nat, k ≤ ns.length ∧ i = .int .i64 k ∧ Hid (∀ i, i < k → ∀ (h1 : i < ns.length) (h2 : i < ms.length), ns[i] = ms[i]) ∧ Ext w wr) (fun _ i _ => ns.length - (intOf i).toNat)
    case atStart => exact ⟨0, by omega, rfl, fun i hi => absurd hi (by omega), Ext.refl _⟩
    case round =>
      obtain ⟨k, hk, rfl, hr, hE⟩ := hrel
      by_cases hlt : k < ns.length
      · have hlt2 : k < ms.length := by have := HL.out; omega
        obtain ⟨a', cap', e', _, _, _, hc⟩ := ((HV.out.below hE).below (Ext.drew wr)).open
        obtain ⟨b, off, rfl, hcell⟩ := hc k hlt
        injection e' with e1 e2 e3
        subst e1
        obtain ⟨a3, cap3, e', _, _, _, hc2⟩ := ((HU.out.below hE).below (Ext.drew wr)).open
        obtain ⟨b2, off2, rfl, hcell2⟩ := hc2 k hlt2
        injection e' with e4 e5 e6
        subst e4
        clear hc hc2 e2 e3 e5 e6
        by_cases h0 : ns[k] = ms[k]
        · have h0' : (ns[k] == ms[k]) = true := by rw [h0]; simp
          have H0 := Lib.hid h0
          clear h0
          go_wp2_with fail
          go_region
          go_wp2
          go_roundw
          case rel =>
            refine ⟨k + 1, by omega, by go_num, fun i hi h1 h2 => ?_, hE.trans (Ext.drew _)⟩
            rcases Nat.lt_or_ge i k with h | h
            · exact hr.out i h h1 h2
            · obtain rfl : i = k := by omega
              exact H0.out
          case measure => simp [intOf]; omega
        · have h0' : (ns[k] == ms[k]) = false := by rw [beq_eq_false_iff_ne]; exact h0
          have H0 := Lib.hid (list_ne k hlt hlt2 h0)
          clear h0
          go_wp2_with fail
          go_region
          go_wp2
          go_ret
          exact ⟨by rw [H0.out]; rfl, hE.trans (Ext.drew _)⟩
      · have hs := Lib.hid (list_same HL.out (fun i h => hr.out i (by omega)))
        clear hr
        go_wp2
        go_ret
        exact ⟨by rw [hs.out]; rfl, hE⟩
  · have h1' : ((ns.length : Int) == (ms.length : Int)) = false := by rw [beq_eq_false_iff_ne]; omega
    have HL := Lib.hid (list_other hl)
    clear hc hc2 hl
    go_enter Tryz.func101, Tryz.ntmps101
    go_wp2
    go_ret
    exact ⟨by rw [HL.out]; rfl, Ext.refl _⟩

/- Layer 3, the program: a vector as bytes. -/
/-- A vector's bytes. -/
def Vec.enc (v : List Int) : List UInt8 := Pack.num v.length ++ nums v
def bytesOr : Bool → List UInt8 → List UInt8
  | true, l => l
  | false, _ => []
@[simp] theorem bytesOr_true (l : List UInt8) : bytesOr true l = l := rfl
@[simp] theorem bytesOr_false (l : List UInt8) : bytesOr false l = [] := rfl
def formErr : Bool → Int
  | true => 0
  | false => 30
@[simp] theorem formErr_true : formErr true = 0 := rfl
@[simp] theorem formErr_false : formErr false = 30 := rfl
set_option linter.unusedSimpArgs false
set_option linter.unusedVariables false
set_option maxRecDepth 100000
/- Rows of rows of numbers, all of the call's own. No function of the program. -/
theorem OwnI.ext {w w' : World} {base : Nat} {v : Value} {l : List Int} (h : OwnI w base v l) (hE : Ext w w') : OwnI w' base v l := rowExt h hE
theorem OwnI.lower {w : World} {base b : Nat} {v : Value} {l : List Int} (h : OwnI w base v l) (hb : b ≤ base) : OwnI w b v l := rowLower h hb
theorem OwnI.but {w w' : World} {base p : Nat} {v : Value} {l : List Int} {cs : Array Value} {t : TypeId} {fr : Nat × Nat} (h : OwnI w base v l) (hp : w.heap[p]? = some (.cells cs t fr)) (ht : t ≠ 3) (hB : But p w w') : OwnI w' base v l :=
  rowBut h (rowBeside h hp ht) hB
theorem OwnI.slice {w : World} {base : Nat} {v : Value} {l : List Int} (h : OwnI w base v l) : ∃ a n c, v = .slice a n c := ownSlice h
/-- A row beside a row that grows. -/
theorem OwnI.grown {w w' : World} {base b n : Nat} {v u : Value} {l : List Int} {xs : List Value} (h : OwnI w base v l) (hu : w.ownsRow b 42 1 u n xs) (hg : w.grownBy w' u.ownBlock) : OwnI w' base v l := by
  rcases hu.2 with ⟨rfl, _⟩ | ⟨g, cap, cur, rfl, _, hgb, _⟩
  · exact h.kept hg (by
      rcases h.2 with ⟨rfl, _⟩ | ⟨g, cap, cur, rfl, _⟩
      · exact .inl rfl
      · exact .inr (by simp [Value.ownBlock]))
  · exact h.kept hg (.inr (Ne.symm (rowBeside h hgb (by decide))))

/-- Own rows, in a row of the call's own. -/
def OwnRR (w : World) (base : Nat) (v : Value) (ls : List (List Int)) : Prop :=
  ∃ xs : List Value, w.ownsRow base 42 1 v ls.length xs ∧ xs.length = ls.length ∧ ∀ i (h : i < xs.length) (h' : i < ls.length), OwnI w base xs[i] ls[i]
theorem OwnRR.rows {w : World} {base : Nat} {v : Value} {ls : List (List Int)} (h : OwnRR w base v ls) : IRows w v ls := by
  obtain ⟨xs, h1, h2, h3⟩ := h
  exact ⟨xs, Sl.ofOwn h1, h2, fun i h h' => (h3 i h h').ints⟩
theorem OwnRR.nil (w : World) (base : Nat) : OwnRR w base (.slice none 0 0) [] := ⟨[], World.ownsRow_nil _ _ _ _, rfl, fun i h _ => absurd h (by simp)⟩
theorem OwnRR.ext {w w' : World} {base : Nat} {v : Value} {ls : List (List Int)} (h : OwnRR w base v ls) (hE : Ext w w') : OwnRR w' base v ls := by
  obtain ⟨xs, h1, h2, h3⟩ := h
  exact ⟨xs, rowExt h1 hE, h2, fun i h h' => (h3 i h h').ext hE⟩
theorem OwnRR.but {w w' : World} {base p : Nat} {v : Value} {ls : List (List Int)} {cs : Array Value} {t : TypeId} {fr : Nat × Nat} (h : OwnRR w base v ls) (hp : w.heap[p]? = some (.cells cs t fr)) (ht : t ≠ 3) (ht2 : t ≠ 42) (hB : But p w w') : OwnRR w' base v ls := by
  obtain ⟨xs, h1, h2, h3⟩ := h
  exact ⟨xs, rowBut h1 (rowBeside h1 hp ht2) hB, h2, fun i h h' => (h3 i h h').but hp ht hB⟩
theorem OwnRR.slice {w : World} {base : Nat} {v : Value} {ls : List (List Int)} (h : OwnRR w base v ls) : ∃ a n c, v = .slice a n c := by
  obtain ⟨xs, h1, _⟩ := h
  exact ownSlice h1
theorem OwnRR.lower {w : World} {base b : Nat} {v : Value} {ls : List (List Int)} (h : OwnRR w base v ls) (hb : b ≤ base) : OwnRR w b v ls := by
  obtain ⟨xs, h1, h2, h3⟩ := h
  exact ⟨xs, rowLower h1 hb, h2, fun i h h' => (h3 i h h').lower hb⟩
theorem ints0 (w : World) : Ints w (.slice none 0 0) [] := Sl.ofOwn (World.ownsRow_nil w 0 3 1)
/- The library's slices.Clone at rows of ints. No function of the program's own. -/
set_option maxHeartbeats 2000000 in
theorem cloneI_any (v : Value) (ns : List Int) (w : World) (hv : Ints w v ns) (hl : ns.length ≤ 1000000) :
    Calls Tryz.prog 108 #[v] w fun x w' => ∃ u, x = .returned u ∧ w'.ownsRow w.heap.size 3 1 u ns.length (i64s ns) ∧ Ext w w' := by
  have hv0 := hv
  obtain ⟨a, cap, rfl, hcap, hmax, hn, hc⟩ := hv.open
  have e1 := fun (w : World) (a : Option Addr) (n c : Nat) => Lib.run_eql_slice_nil (P := Tryz.prog) w 42 3 a n c 0 0 Tryz.underlying42
  cases a with
  | none =>
    obtain rfl := hn rfl
    have : ns = [] := List.eq_nil_of_length_eq_zero (by omega)
    subst this
    clear hc
    go_enter Tryz.func108, Tryz.ntmps108
    go_wp2
    go_ret
    exact ⟨_, rfl, World.ownsRow_nil _ _ _ _, Below.refl _ _⟩
  | some ad =>
    have hu := i64s_one ns
    have ti := tI
    clear hc
    have hown0 : (w.alloc (.cells #[] 3)).ownsRow w.heap.size 3 1 (.slice (some ⟨w.heap.size, 0, none⟩) 0 0) 0 [] := World.ownsRow_made w #[] 0 (Nat.le_refl _) (by simp [maxLen]) (by simp)
    have hsl : Sl (w.alloc (.cells #[] 3)) (.slice (some ad) ns.length cap) (i64s ns) := hv0.below (Ext.alloc _ _)
    have hc1 : 0 + (i64s ns).length ≤ maxLen := by simp; unfold maxLen; omega
    have hc2 : (0 + (i64s ns).length) * 8 ≤ 140737488355328 := by simp; omega
    go_enter Tryz.func108, Tryz.ntmps108
    go_wp2_with (first | (at_builtin; refine wpList_app rfl (.tmp 5) (.tmp 6) ti rfl rfl rfl hown0 hsl hu hc1 hc2 (by simp) ?_; intro v2 w2 hown2 hg2))
    go_ret
    exact ⟨_, rfl, by simpa using hown2, ((Below.refl _ w).alloc (Nat.le_refl _) _).grown hg2 (by simp) (fun k hk => (hown0.lt k hk).1)⟩
end Go.Proofs.YtfgjhagfpafmoaaGreat

namespace Go.Proofs.YtfgjhagfpafmoaaGreat
open Go.ChangeShapes Go.WideShapes Go.ChangeAt Go.RowKit
/- What comes in, as rows of numbers. No program. -/
section
variable {H : Type} {enc : TypeId × Value → H} {P : Program} {w : World} {base : Nat} {spare : Nat → Bool} {held : Bool}
theorem ints_of_raw {t e : TypeId} {fuel : Nat} {cs : List Value} {x : DataW H × List MemPlace} (ht : P.underlying t = some (.slice e)) (he : P.underlying e = some (.int .i64)) (hc : P.cellsOf e = 1)
    (h : DataW.trod enc P w base spare held fuel t cs = some x) : ∃ v l, cs = [v] ∧ Ints w v l := by
  obtain ⟨v, xs, rfl, hs, hx⟩ := sl_of_raw ht hc h
  have : ∀ i (hi : i < xs.length), ∃ x : Int, xs[i] = .int .i64 x := by
    intro i hi
    obtain ⟨f, y, hy⟩ := hx i hi
    obtain ⟨n, e1, _, hw⟩ := DataW.trod_int he hy
    injection e1 with e1 _
    exact ⟨n, e1⟩
  have key : ∀ l : List Value, (∀ i (hi : i < l.length), ∃ x : Int, l[i] = .int .i64 x) → ∃ m : List Int, l = i64s m := by
    intro l
    induction l with
    | nil => intro _; exact ⟨[], rfl⟩
    | cons a l ih =>
      intro hl
      obtain ⟨m, rfl⟩ := ih (fun i hi => by have := hl (i + 1) (by simpa using hi); simpa using this)
      obtain ⟨z, hz⟩ := hl 0 (by simp)
      exact ⟨z :: m, by simp only [List.getElem_cons_zero] at hz; rw [hz]; rfl⟩
  obtain ⟨m, rfl⟩ := key xs this
  exact ⟨v, m, rfl, hs⟩
end
end Go.Proofs.YtfgjhagfpafmoaaGreat
