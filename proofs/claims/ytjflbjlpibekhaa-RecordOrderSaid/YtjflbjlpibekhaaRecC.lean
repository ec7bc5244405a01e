/-
  Layer 4, the program: bytes as records.
-/
import Derived.Test.YtjflbjlpibekhaaRecB
import Derived.Deep.RegionLaw
import Derived.Deep.RegionHeld3
namespace Go.Proofs.Ytjflbjlpibekhaa
set_option linter.unusedSimpArgs false
set_option linter.unusedVariables false
set_option maxRecDepth 100000
open Go.RowKit

def noRec : Rec.R := ⟨0, 0, [], []⟩
def decOk4 : Option (List UInt8) → Bool
  | none => false
  | some t => Rec.readOk t
def decErr4 : Option (List UInt8) → Int
  | none => 41
  | some t => recErr (Rec.readOk t)
def orRec : Bool → Rec.R → Rec.R
  | true, r => r
  | false, _ => noRec
def decRec4 : Option (List UInt8) → Rec.R
  | none => noRec
  | some t => orRec (Rec.readOk t) (Rec.read t)
theorem decErr4_some (t : List UInt8) : decErr4 (some t) = recErr (Rec.readOk t) := rfl
theorem decRec4_some (t : List UInt8) : decRec4 (some t) = orRec (Rec.readOk t) (Rec.read t) := rfl
/-- What Decode leaves. -/
def GivesDec4 (w : World) (o : Option (List UInt8)) (e : Ending) (w' : World) : Prop := ∃ u, e = .returned (.tuple #[u, .int .i64 (decErr4 o)]) ∧ IsRec w' u (decRec4 o) ∧ Ext w w'

theorem build_rec0 (w : World) : (Instr.build 26 #[]).run Try.prog w = .ok (.agg #[.int .i64 0, .int .i64 0, .slice none 0 0, .string ⟨#[]⟩]) w := by kernel_rfl
theorem build_id (w : World) (c n : Int) : (Instr.build 23 #[(0, .int .i64 c), (1, .int .i64 n)]).run Try.prog w = .ok (.agg #[.int .i64 c, .int .i64 n]) w := by kernel_rfl
theorem build_rec1 (w : World) (c n : Int) : (Instr.build 26 #[(0, .agg #[.int .i64 c, .int .i64 n])]).run Try.prog w = .ok (.agg #[.int .i64 c, .int .i64 n, .slice none 0 0, .string ⟨#[]⟩]) w := by kernel_rfl
/-- A row of the call's own lies beside a block of another type. -/
theorem row_beside4 {w : World} {base q n : Nat} {e t : TypeId} {v : Value} {xs : List Value} {cs : Array Value} {fr : Nat × Nat} (ho : w.ownsRow base e 1 v n xs) (hq : w.heap[q]? = some (.cells cs t fr)) (hte : t ≠ e) : some q ≠ v.ownBlock := by
  rcases ho.2 with ⟨rfl, _⟩ | ⟨g, cap, cur, rfl, _, hgb, _⟩
  · simp [Value.ownBlock]
  · intro e'
    obtain rfl : q = g := by simpa [Value.ownBlock] using e'
    rw [hq] at hgb
    simp at hgb
    exact hte hgb.2.1
theorem grownBy_set4 (W : World) (b o : Nat) (v : Value) : W.grownBy (W.setCell ⟨b, o, none⟩ v) (some b) :=
  ⟨rfl, rfl, rfl, by simp [World.setCell], fun k _ hk => Below.heap_setCell _ _ _ k (fun e => hk (by rw [e]))⟩

theorem RecAt.zero (w : World) : RecAt (w.alloc (.cells #[.int .i64 0, .int .i64 0, .slice none 0 0, .string ⟨#[]⟩] 26)) w.heap.size (.slice none 0 0) noRec := by
  unfold RecAt noRec
  exact heap_alloc_new w _

theorem set_four {w : World} {q : Nat} {x0 x1 x2 x3 : Value} {T : TypeId} (h : w.heap[q]? = some (.cells #[x0, x1, x2, x3] T (0, 0))) (v0 v1 v2 v3 : Value) :
    ((((w.setCell ⟨q, 0, none⟩ v0).setCell ⟨q, 1, none⟩ v1).setCell ⟨q, 2, none⟩ v2).setCell ⟨q, 3, none⟩ v3).heap[q]? = some (.cells #[v0, v1, v2, v3] T (0, 0)) ∧ But q w ((((w.setCell ⟨q, 0, none⟩ v0).setCell ⟨q, 1, none⟩ v1).setCell ⟨q, 2, none⟩ v2).setCell ⟨q, 3, none⟩ v3) := by
  refine ⟨?_, ((((But.refl _ _).setCell 0 none v0).setCell 1 none v1).setCell 2 none v2).setCell 3 none v3⟩
  have := heap_setCell (heap_setCell (heap_setCell (heap_setCell h 0 v0) 1 v1) 2 v2) 3 v3
  simpa using this
theorem RecAt.set {w : World} {p : Nat} {t : Value} {r : Rec.R} (h : RecAt w p t r) (t' : Value) (r' : Rec.R) :
    RecAt ((((w.setCell ⟨p, 0, none⟩ (.int .i64 r'.client)).setCell ⟨p, 1, none⟩ (.int .i64 r'.number)).setCell ⟨p, 2, none⟩ t').setCell ⟨p, 3, none⟩ (.string ⟨r'.data.toArray⟩)) p t' r' ∧
    But p w ((((w.setCell ⟨p, 0, none⟩ (.int .i64 r'.client)).setCell ⟨p, 1, none⟩ (.int .i64 r'.number)).setCell ⟨p, 2, none⟩ t').setCell ⟨p, 3, none⟩ (.string ⟨r'.data.toArray⟩)) := set_four h _ _ _ _
theorem RD.grown4 {w w' : World} {p q n : Nat} {s : Pack.St} {e : TypeId} {v : Value} {xs : List Value} (h : RD w p s) (ho : w.ownsRow q e 1 v n xs) (hg : w.grownBy w' v.ownBlock) (hpq : p < q) : RD w' p s :=
  h.keep fun k hk => hg.block k (by have := h.lt; omega) (fun e => by have := (ho.lt k e.symm).1; omega)
theorem RD.set4 {w : World} {p q o : Nat} {s : Pack.St} {v : Value} (h : RD w p s) (hpq : p < q) : RD (w.setCell ⟨q, o, none⟩ v) p s :=
  h.keep fun k hk => Below.heap_setCell _ _ _ k (by show k ≠ q; omega)
theorem row_but4 {w w' : World} {p base n : Nat} {e : TypeId} {v : Value} {xs : List Value} (ho : w.ownsRow base e 1 v n xs) (hne : some p ≠ v.ownBlock) (hb : But p w w') : w'.ownsRow base e 1 v n xs :=
  ho.kept (row := some p) ⟨hb.os, hb.tape, hb.output, hb.size, fun k hk hkp => hb.block k hk (fun e => hkp (by rw [e]))⟩ (.inr (Ne.symm hne))
theorem row_ext4 {w w' : World} {base n : Nat} {e : TypeId} {v : Value} {xs : List Value} (ho : w.ownsRow base e 1 v n xs) (hE : Ext w w') : w'.ownsRow base e 1 v n xs :=
  ho.kept (row := none) ⟨hE.os, hE.tape, hE.output, hE.size, fun k hk _ => hE.block k hk⟩ (by
    rcases ho.2 with ⟨rfl, _⟩ | ⟨g, cap, cur, rfl, _⟩
    · exact .inl rfl
    · exact .inr (by simp [Value.ownBlock]))
theorem RecAt.grown4 {w w' : World} {p : Nat} {t : Value} {r : Rec.R} {o : Option Nat} (h : RecAt w p t r) (hg : w.grownBy w' o) (hne : some p ≠ o) : RecAt w' p t r := (hg.block p h.lt hne).trans h
theorem grownBy_but4 (W : World) (b o : Nat) (v : Value) : But b W (W.setCell ⟨b, o, none⟩ v) := (But.refl _ _).setCell o none v
theorem RecAt.tags {w : World} {p : Nat} {t t' : Value} {c n : Int} {ts ts' : List Int} {d : List UInt8} (h : RecAt w p t ⟨c, n, ts, d⟩) : RecAt (w.setCell ⟨p, 2, none⟩ t') p t' ⟨c, n, ts', d⟩ := by
  have := heap_setCell h 2 t'
  unfold RecAt
  simpa using this
theorem own_slice4 {w : World} {base n : Nat} {e : TypeId} {v : Value} {xs : List Value} (h : w.ownsRow base e 1 v n xs) : ∃ a n c, v = .slice a n c := by
  obtain ⟨a, c, rfl, _⟩ := Sl.ofOwn h
  exact ⟨_, _, _, rfl⟩
theorem RecAt.later {w : World} {p : Nat} {t : Value} {r : Rec.R} {o : Obj} (h : RecAt w p t r) : p ≤ (w.alloc o).heap.size := by
  have := h.lt
  rw [World.size_alloc]
  omega
theorem RecAt.data {w : World} {p : Nat} {t : Value} {c n : Int} {ts : List Int} {d : List UInt8} (h : RecAt w p t ⟨c, n, ts, d⟩) (d' : List UInt8) : RecAt (w.setCell ⟨p, 3, none⟩ (.string ⟨d'.toArray⟩)) p t ⟨c, n, ts, d'⟩ := by
  have := heap_setCell h 3 (.string ⟨d'.toArray⟩)
  unfold RecAt
  simpa using this
theorem RD.heap {w : World} {p : Nat} {s : Pack.St} (h : RD w p s) : ∃ a n c, w.heap[p]? = some (.cells #[.slice a n c, .int .i64 s.err] 99 (0, 0)) := by
  obtain ⟨a, n, c, h, _⟩ := h
  exact ⟨a, n, c, h⟩
theorem RecAt.name {w : World} {p : Nat} {t : Value} {c n : Int} {ts ts' : List Int} {d : List UInt8} (h : RecAt w p t ⟨c, n, ts, d⟩) : RecAt w p t ⟨c, n, ts', d⟩ := h
theorem num_most4 (s : Pack.St) (most : Int) (h : 0 ≤ most) : ((s.num most).2 : Int) ≤ most := by
  unfold Pack.St.num
  split
  · exact h
  · split
    · exact h
    · split
      · exact h
      · rename_i h3
        unfold Pack.wrong at h3
        simp only
        omega

set_option maxHeartbeats 8000000 in
theorem decode4_any (v : Value) (l : List UInt8) (w : World) (hv : Bytes w v l) (hl : l.length ≤ 200000) :
    Calls Try.prog 16 #[v] w (GivesDec4 w (Crc.cutOf l)) := by
  have hb0 := build_rec0
  have hb1 := build_rec1
  have hb2 := build_id
  have HV := Lib.hid hv
  obtain ⟨a, cap, rfl, hcap, hmax, hn, hc⟩ := hv.open
  unfold maxLen at hmax
  clear hv hc
  obtain ⟨C, hC⟩ : ∃ C, Crc.cutOf l = C := ⟨_, rfl⟩
  rw [hC]
  have HC := Lib.hid hC
  clear hC
  unfold GivesDec4
  have hE0 : Ext w (w.alloc (.cells #[.int .i64 0, .int .i64 0, .slice none 0 0, .string ⟨#[]⟩] 26)) := Ext.alloc _ _
  have HR0 := Lib.hid (RecAt.zero w)
  go_enter Try.func16, Try.ntmps16
  go_wp2_with fail
  refine (new_any _).mono ?_
  rintro e w1 ⟨rfl, ht1, hE1⟩
  rw [World.size_alloc] at ht1 ⊢
  have r1 := Lib.hid (HR0.out.ext hE1)
  have e1 := hE0.trans hE1
  go_wp2_with fail
  have hcall := cut_any _ 0 0 _ l _ ht1 (.inl rfl) (HV.out.below e1) hl
  rw [HC.out] at hcall
  refine hcall.mono ?_
  clear hcall
  intro e w2 hq
  obtain ⟨-, hB2, hcut⟩ := hq
  have e2 : Ext w w2 := Below.trans (B := w.heap.size) e1 (hB2.below (Nat.le_succ _) e1.size)
  have r2 := Lib.hid (r1.out.but hB2 (by simp))
  obtain ⟨c0, c1, c2, c3⟩ := r2.out.cells
  have fr : ∀ i, w2.frozen? ⟨w.heap.size, i, none⟩ = false := fun i => frozen_of_heap r2.out i
  cases C with
  | none =>
    subst hcut
    go_wp2_with fail
    have hs := r2.out.set (.slice none 0 0) noRec
    exact bodyPost_ret (v := .tuple #[recV (.slice none 0 0) noRec, .int .i64 41]) (by simp [results, Try.results16, go_sem, c0, c1, c2, c3, fr, noRec, recV]) rfl ⟨_, rfl, ⟨_, rfl, ints_none _⟩, Below.trans (B := w.heap.size) e2 (hs.2.below (Nat.le_refl _) e2.size)⟩
  | some t =>
    obtain ⟨v2, rfl, hb2⟩ := hcut
    have htl : t.length ≤ l.length := by
      have := HC.out
      unfold Crc.cutOf at this
      split at this
      · cases this
      · split at this
        · injection this with this
          rw [← this, List.length_take]
          omega
        · cases this
    obtain ⟨A, hA⟩ : ∃ A, Pack.St.num ⟨t, 0⟩ 1099511627776 = A := ⟨_, rfl⟩
    obtain ⟨B, hB⟩ : ∃ B, A.1.num 1099511627776 = B := ⟨_, rfl⟩
    obtain ⟨C, hC⟩ : ∃ C, B.1.num 8 = C := ⟨_, rfl⟩
    have sA : Rec.stA t = A := hA
    have sB : Rec.stB t = B := by unfold Rec.stB; rw [sA]; exact hB
    have sC : Rec.stC t = C := by unfold Rec.stC; rw [sB]; exact hC
    have hC8 : C.2 ≤ 8 := by
      have := num_most4 B.1 8 (by omega)
      rw [hC] at this
      omega
    have HA := Lib.hid hA
    have HB := Lib.hid hB
    have HCC := Lib.hid hC
    have HS := Lib.hid (And.intro sA (And.intro sB sC))
    clear hA hB hC sA sB sC c0 c1 c2 c3 fr
    obtain ⟨a2, n2, k2, rfl⟩ := hb2.isSlice
    go_wp2_with fail
    refine (newReader_any _ t _ hb2 (by omega)).mono ?_
    rintro e w3 ⟨p, rfl, hp, hr3, hE3⟩
    have e3 := e2.trans hE3
    have r3 := Lib.hid (r2.out.ext hE3)
    have hq0 : w.heap.size ≠ p := by have := r2.out.lt; omega
    have hwp : w.heap.size ≤ p := Nat.le_trans e2.size hp
    go_wp2_with fail
    refine (num_any p _ 1099511627776 _ hr3).mono ?_
    rw [HA.out]
    rintro e w4 ⟨rfl, hB4, hr4⟩
    have r4 := Lib.hid (r3.out.but hB4 hq0)
    have e4 : Ext w w4 := Below.trans (B := w.heap.size) e3 (hB4.below hwp e3.size)
    go_wp2_with fail
    refine (num_any p _ 1099511627776 _ hr4).mono ?_
    rw [HB.out]
    rintro e w5 ⟨rfl, hB5, hr5⟩
    have r5 := Lib.hid (r4.out.but hB5 hq0)
    have e5 : Ext w w5 := Below.trans (B := w.heap.size) e4 (hB5.below hwp e4.size)
    go_wp2_with fail
    have hpq : p < w5.heap.size := hr5.lt
    have r6 := Lib.hid (r5.out.ext (Ext.alloc w5 (.cells #[.int .i64 (A.2 : Int), .int .i64 (B.2 : Int), .slice none 0 0, .string ⟨#[]⟩] 26)))
    have x6 : RecAt (w5.alloc (.cells #[.int .i64 (A.2 : Int), .int .i64 (B.2 : Int), .slice none 0 0, .string ⟨#[]⟩] 26)) w5.heap.size (.slice none 0 0) ⟨(A.2 : Int), (B.2 : Int), [], []⟩ := by
      unfold RecAt
      exact heap_alloc_new _ _
    have X6 := Lib.hid x6
    have e6 : Ext w (w5.alloc (.cells #[.int .i64 (A.2 : Int), .int .i64 (B.2 : Int), .slice none 0 0, .string ⟨#[]⟩] 26)) := e5.trans (Ext.alloc _ _)
    have hwq : w.heap.size < w5.heap.size := by have := r5.out.lt; omega
    clear x6
    refine (num_any p _ 8 _ (hr5.ext (Ext.alloc _ _))).mono ?_
    rw [HCC.out]
    rintro e w7 ⟨rfl, hB7, hr7⟩
    have r7 := Lib.hid (r6.out.but hB7 hq0)
    have x7 := Lib.hid (X6.out.but hB7 (by omega))
    have e7 : Ext w w7 := Below.trans (B := w.heap.size) e6 (hB7.below hwp e6.size)
    obtain ⟨q, hq⟩ : ∃ q, w5.heap.size = q := ⟨_, rfl⟩
    have hq7 : q < w7.heap.size := by
      have := hB7.size
      rw [World.size_alloc, hq] at this
      omega
    rw [hq] at x7 hpq hwq ⊢
    obtain ⟨m, hm⟩ : ∃ m, C.2 = m := ⟨_, rfl⟩
    rw [hm] at hC8 ⊢
    have HM := Lib.hid hm
    clear hq hm
    have ti := tI
    go_wp2_with fail
    go_loopw [27] (fun i wr => ∃ k : Nat, k ≤ m ∧ i = .int .i64 k ∧ ∃ tv, Hid (RecAt wr q tv ⟨(A.2 : Int), (B.2 : Int), (Rec.readsM 1073741824 C.1 k).2, []⟩) ∧ wr.ownsRow q 3 1 tv k (i64s (Rec.readsM 1073741824 C.1 k).2) ∧ RD wr p (Rec.readsM 1073741824 C.1 k).1 ∧ Hid (RecAt wr w.heap.size (.slice none 0 0) noRec) ∧ Ext w wr) (fun i _ => m - (intOf i).toNat)
    case atStart => exact ⟨0, by omega, rfl, _, x7, World.ownsRow_nil _ _ _ _, hr7, r7, e7⟩
    case round =>
      obtain ⟨k, hk, rfl, tv, x, ho, hr, r, hE⟩ := hrel
      by_cases hlt : k < m
      · obtain ⟨N, hN⟩ : ∃ N, (Rec.readsM 1073741824 C.1 k).1.num 1073741824 = N := ⟨_, rfl⟩
        have hnx : Rec.readsM 1073741824 C.1 (k + 1) = (N.1, (Rec.readsM 1073741824 C.1 k).2 ++ [(N.2 : Int)]) := by
          show ((((Rec.readsM 1073741824 C.1 k).1.num 1073741824).1, (Rec.readsM 1073741824 C.1 k).2 ++ [(((Rec.readsM 1073741824 C.1 k).1.num 1073741824).2 : Int)])) = _
          rw [hN]
        have HN := Lib.hid hN
        have HNX := Lib.hid hnx
        have hqr : q < wr.heap.size := x.out.lt
        have hbs := row_beside4 ho x.out (by decide)
        have hr' := hr
        obtain ⟨pa, pn, pc, hpp, _, _⟩ := hr'
        have hbp := Lib.hid (row_beside4 ho hpp (by decide))
        have HBS := Lib.hid hbs
        have hone := i64s_one [(N.2 : Int)]
        have hlen : (i64s (Rec.readsM 1073741824 C.1 k).2).length = k := by rw [i64s_length, Rec.readsM_len]
        obtain ⟨y, hy⟩ : ∃ y : Int, (N.2 : Int) = y := ⟨_, rfl⟩
        rw [hy] at hone hnx
        have HNX := Lib.hid hnx
        have HY := Lib.hid hy
        have hc1 := x.out.cells.2.2.1
        have HO := Lib.hid ho
        have HR := Lib.hid hr
        have hcl : ∀ w' : World, RecAt w' q tv ⟨(A.2 : Int), (B.2 : Int), (Rec.readsM 1073741824 C.1 k).2, []⟩ → w'.cell? ⟨q, 2, none⟩ = some tv := fun w' h => h.cells.2.2.1
        have hk1 : k + (i64s [y]).length ≤ maxLen := by simp [maxLen]; omega
        have hk2 : (k + (i64s [y]).length) * 8 ≤ 140737488355328 := by simp; omega
        have hown1 : ∀ w6 : World, But p wr.drew w6 → (w6.alloc (.cells #[.int .i64 y] 3)).ownsRow q 3 1 tv k (i64s (Rec.readsM 1073741824 C.1 k).2) := fun w6 hB => (row_but4 HO.out.drew hbp.out hB).alloc _
        have hins : ∀ w6 : World, Sl (w6.alloc (.cells #[.int .i64 y] 3)) (.slice (some ⟨w6.heap.size, 0, none⟩) 1 1) (i64s [y]) := fun w6 => Ints.one w6 y
        have HOWN1 := Lib.hid hown1
        have HINS := Lib.hid hins
        have HCL := Lib.hid hcl
        clear hN hnx hy hpp ho hr hbs hown1 hins hcl
        go_wp2_with fail
        go_region_law
          (first
            | (go_simp; go_at_call 37; refine (num_any p _ 1073741824 _ (HR.out.ext (Ext.drew wr))).mono ?_; rw [HN.out, HY.out]; rintro e w8 ⟨rfl, hB8, hr8⟩; have x8 := Lib.hid (RecAt.but (x.out.ext (Ext.drew wr)) hB8 (by omega)); have hc8 := HCL.out w8 x8.out; have hc8a := HCL.out (w8.alloc (.cells #[.int .i64 y] 3)) (x8.out.ext (Ext.alloc _ _)); have hq8 := RecAt.later (o := .cells #[.int .i64 y] 3) x8.out)
            | (rw [if_pos (by rfl)]; refine wp_app (.tmp 30) (.tmp 33) ti rfl rfl rfl (HOWN1.out _ hB8) (HINS.out w8) hone hk1 hk2 hq8 ?_; intro v9 w9 hown9 hg9; have hg9 : (w8.alloc (.cells #[.int .i64 y] 3)).grownBy w9 tv.ownBlock := hg9; obtain ⟨a9, n9, c9, rfl⟩ := own_slice4 hown9; have x9 := Lib.hid (RecAt.grown4 (x8.out.ext (Ext.alloc _ _)) hg9 HBS.out); have hc9 := HCL.out w9 x9.out; have hf9 := frozen_of_heap x9.out 2))
        all_goals
          have hx10 := Lib.hid (x9.out.tags (t' := .slice a9 n9 c9) (ts' := (Rec.readsM 1073741824 C.1 (k + 1)).2))
          have hb9 := row_beside4 hown9 x9.out (by decide)
          have ho10 := (hown9.kept (grownBy_set4 w9 q 2 (.slice a9 n9 c9)) (.inr (Ne.symm hb9)))
          have hrow1 := HOWN1.out _ hB8
          have hr10 := ((hr8.ext (Ext.alloc w8 (.cells #[.int .i64 y] 3))).grown4 hrow1 hg9 hpq).set4 (o := 2) (v := .slice a9 n9 c9) hpq
          have hq0q : some w.heap.size ≠ tv.ownBlock := fun e => by have := (hrow1.lt _ e.symm).1; omega
          have hr0 := (RecAt.grown4 ((RecAt.but (r.out.ext (Ext.drew wr)) hB8 hq0).ext (Ext.alloc w8 (.cells #[.int .i64 y] 3))) hg9 hq0q)
          have hr0' := hr0.but (grownBy_but4 w9 q 2 (.slice a9 n9 c9)) (by omega)
          have hE8 : Ext w w8 := Below.trans (B := w.heap.size) (hE.trans (Ext.drew wr)) (hB8.below hwp (hE.trans (Ext.drew wr)).size)
          have hE9 : Ext w w9 := Below.grown (hE8.trans (Ext.alloc w8 (.cells #[.int .i64 y] 3))) hg9 (hE8.trans (Ext.alloc w8 (.cells #[.int .i64 y] 3))).size (fun j hj => by have := (hrow1.lt j hj).1; omega)
          have hE10 : Ext w (w9.setCell ⟨q, 2, none⟩ (.slice a9 n9 c9)) := Below.setCell hE9 (p := ⟨q, 2, none⟩) (Nat.le_of_lt hwq) _
          have ho11 : (w9.setCell ⟨q, 2, none⟩ (.slice a9 n9 c9)).ownsRow q 3 1 (.slice a9 n9 c9) (k + 1) (i64s (Rec.readsM 1073741824 C.1 (k + 1)).2) := by
            rw [HNX.out, i64s_append]
            exact ho10
          have hr11 : RD (w9.setCell ⟨q, 2, none⟩ (.slice a9 n9 c9)) p (Rec.readsM 1073741824 C.1 (k + 1)).1 := by
            rw [HNX.out]
            exact hr10
          have HO11 := Lib.hid ho11
          have HR0 := Lib.hid hr0'
          clear ho10 hr10 hr0 hr0' ho11 hrow1 hb9
          go_wp2
          go_roundw
          case rel => exact ⟨k + 1, by omega, by go_num, _, hx10, HO11.out, hr11, HR0, hE10⟩
          case measure => simp [intOf]; omega
      · obtain rfl : k = m := by omega
        have hD : Rec.stD t = Rec.readsM 1073741824 C.1 k := by unfold Rec.stD; rw [HS.out.2.2, HM.out]
        obtain ⟨D, hDD⟩ : ∃ D, Rec.readsM 1073741824 C.1 k = D := ⟨_, rfl⟩
        obtain ⟨F, hF⟩ : ∃ F, D.1.text 1024 = F := ⟨_, rfl⟩
        rw [hDD] at hD x ho hr
        have hEq : Rec.stE t = F := by unfold Rec.stE; rw [hD, hF]
        have hread : Rec.read t = ⟨(A.2 : Int), (B.2 : Int), D.2, F.2⟩ := by unfold Rec.read; rw [HS.out.1, HS.out.2.1, hD, hEq]
        have hok : Rec.readOk t = ((F.1.done == 0) && Rec.right ⟨(A.2 : Int), (B.2 : Int), D.2, F.2⟩) := by unfold Rec.readOk; rw [hEq, hread]
        have HF := Lib.hid hF
        have HRD := Lib.hid hread
        have HOK := Lib.hid hok
        obtain ⟨a9, n9, c9, rfl⟩ := own_slice4 ho
        have HI := Lib.hid (show Ints wr (.slice a9 n9 c9) D.2 from Sl.ofOwn ho)
        have hrowlow := Lib.hid (fun j hj => (ho.lt j hj).1)
        obtain ⟨_, _, _, hhp⟩ := hr.heap
        have hbp := Lib.hid (row_beside4 ho hhp (by decide))
        have hbq := Lib.hid (row_beside4 ho x.out (by decide))
        have HO := Lib.hid ho
        have HR := Lib.hid hr
        clear hD hDD hF hEq hread hok ho hr hhp
        go_wp2_with fail
        refine (text_any p _ 1024 _ HR.out).mono ?_
        rw [HF.out]
        rintro e w8 ⟨rfl, hB8, hr8⟩
        have x8 := Lib.hid (RecAt.but x.out hB8 (by omega))
        have r8 := Lib.hid (RecAt.but r.out hB8 hq0)
        have o8 := Lib.hid (row_but4 HO.out hbp.out hB8)
        have hE8 : Ext w w8 := Below.trans (B := w.heap.size) hE (hB8.below hwp hE.size)
        obtain ⟨c0, c1, c2, c3⟩ := x8.out.cells
        have f3 := frozen_of_heap x8.out 3
        have x9 := Lib.hid (RecAt.data x8.out F.2)
        have hB9 := grownBy_but4 w8 q 3 (.string ⟨F.2.toArray⟩)
        have r9 := Lib.hid (RecAt.but r8.out hB9 (by omega))
        have hr9 := Lib.hid (hr8.set4 (q := q) (o := 3) (v := .string ⟨F.2.toArray⟩) hpq)
        have o9 := Lib.hid (row_but4 o8.out hbq.out hB9)
        have hE9 : Ext w (w8.setCell ⟨q, 3, none⟩ (.string ⟨F.2.toArray⟩)) := Below.setCell hE8 (p := ⟨q, 3, none⟩) (Nat.le_of_lt hwq) _
        clear hB9
        go_wp2_with fail
        generalize hw9 : w8.setCell ⟨q, 3, none⟩ (.string ⟨F.2.toArray⟩) = w9 at *
        have HI9 := Lib.hid (show Ints w9 (.slice a9 n9 c9) D.2 from Sl.ofOwn o9.out)
        clear hw9 c0 c1 c2 c3 f3
        refine (end_any p _ _ hr9.out).mono ?_
        obtain ⟨d, hdd⟩ : ∃ d, F.1.done = d := ⟨_, rfl⟩
        rw [hdd] at HOK ⊢
        clear hdd
        rintro e w10 ⟨rfl, rfl⟩
        by_cases hd : d = 0
        · subst hd
          have hd' : ((0 : Int) == 0) = true := rfl
          have hok2 : Rec.readOk t = Rec.right ⟨(A.2 : Int), (B.2 : Int), D.2, F.2⟩ := by rw [HOK.out, hd']; rfl
          have HOK2 := Lib.hid hok2
          obtain ⟨d0, d1, d2, d3⟩ := x9.out.cells
          clear hok2 hd'
          go_wp2_with fail
          refine (right4_any _ ⟨(A.2 : Int), (B.2 : Int), D.2, F.2⟩ _ ⟨_, rfl, HI9.out⟩).mono ?_
          rintro e w11 ⟨rfl, hE11⟩
          have r11 := Lib.hid (r9.out.ext hE11)
          have x11 := Lib.hid (x9.out.ext hE11)
          have e11 := hE9.trans hE11
          clear d0 d1 d2 d3
          obtain ⟨c0, c1, c2, c3⟩ := r11.out.cells
          obtain ⟨d0, d1, d2, d3⟩ := x11.out.cells
          have fr : ∀ i, w11.frozen? ⟨w.heap.size, i, none⟩ = false := fun i => frozen_of_heap r11.out i
          cases hrr : Rec.right ⟨(A.2 : Int), (B.2 : Int), D.2, F.2⟩ with
          | false =>
            rw [hrr] at HOK2
            clear hrr
            go_wp2_with fail
            have hs := r11.out.set (.slice none 0 0) noRec
            exact bodyPost_ret (v := .tuple #[recV (.slice none 0 0) noRec, .int .i64 40]) (by simp [results, Try.results16, go_sem, c0, c1, c2, c3, fr, noRec, recV]) rfl
              ⟨_, by rw [decErr4_some, HOK2.out]; rfl, by rw [decRec4_some, HOK2.out]; exact ⟨_, rfl, ints_none _⟩, Below.trans (B := w.heap.size) e11 (hs.2.below (Nat.le_refl _) e11.size)⟩
          | true =>
            rw [hrr] at HOK2
            clear hrr
            go_wp2_with fail
            have hs := r11.out.set (.slice a9 n9 c9) ⟨(A.2 : Int), (B.2 : Int), D.2, F.2⟩
            have hbr : some w.heap.size ≠ (Value.slice a9 n9 c9).ownBlock := fun e => by have := (o9.out.lt _ e.symm).1; omega
            have hi11 : Ints _ (.slice a9 n9 c9) D.2 := Sl.ofOwn (row_but4 (row_ext4 o9.out hE11) hbr hs.2)
            exact bodyPost_ret (v := .tuple #[recV (.slice a9 n9 c9) ⟨(A.2 : Int), (B.2 : Int), D.2, F.2⟩, .int .i64 0]) (by simp [results, Try.results16, go_sem, c0, c1, c2, c3, d0, d1, d2, d3, fr, recV]) rfl
              ⟨_, by rw [decErr4_some, HOK2.out]; rfl, by rw [decRec4_some, HOK2.out, HRD.out]; exact ⟨_, rfl, hi11⟩, Below.trans (B := w.heap.size) e11 (hs.2.below (Nat.le_refl _) e11.size)⟩
        · have hd' : (d == 0) = false := by rw [beq_eq_false_iff_ne]; exact hd
          have hok2 : Rec.readOk t = false := by rw [HOK.out, hd']; rfl
          have HOK2 := Lib.hid hok2
          obtain ⟨c0, c1, c2, c3⟩ := r9.out.cells
          have fr : ∀ i, w9.frozen? ⟨w.heap.size, i, none⟩ = false := fun i => frozen_of_heap r9.out i
          clear hok2 hd'
          go_wp2_with fail
          have hs := r9.out.set (.slice none 0 0) noRec
          exact bodyPost_ret (v := .tuple #[recV (.slice none 0 0) noRec, .int .i64 40]) (by simp [results, Try.results16, go_sem, c0, c1, c2, c3, fr, noRec, recV]) rfl
            ⟨_, by rw [decErr4_some, HOK2.out]; rfl, by rw [decRec4_some, HOK2.out]; exact ⟨_, rfl, ints_none _⟩, Below.trans (B := w.heap.size) hE9 (hs.2.below (Nat.le_refl _) hE9.size)⟩
end Go.Proofs.Ytjflbjlpibekhaa
