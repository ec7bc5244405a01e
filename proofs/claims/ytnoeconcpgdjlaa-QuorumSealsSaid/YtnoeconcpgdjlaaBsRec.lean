/-
  Merged: Layer 4, the program: which records may be; Layer 4, the program: records as bytes; Layer 4, the program: bytes as records; Layer 4, the program: tags, sameness, places; Layer 4, the program: one record, or two; Layer 4: a record out of what comes in.
-/
import Derived.Lib.ConvBytes
import Derived.Deep.RegionLaw
import Derived.Deep.RegionHeld3
import Derived.Test.YtnoeconcpgdjlaaRows
import Derived.Test.YtnoeconcpgdjlaaChecked
import Derived.SizedLaws
import Derived.Test.YtnoeconcpgdjlaaBsCrcPut
import Derived.Test.YtnoeconcpgdjlaaBsCrcRef
import Derived.Test.YtnoeconcpgdjlaaBsLibW
import Derived.Test.YtnoeconcpgdjlaaBsMath
import Derived.Test.YtnoeconcpgdjlaaBsPack
import Derived.Test.YtnoeconcpgdjlaaBsPack2
import Derived.Test.YtnoeconcpgdjlaaBsVec

set_option linter.unusedSimpArgs false
set_option linter.unusedVariables false

namespace Go.Proofs.Ytnoeconcpgdjlaa
set_option maxRecDepth 100000
open Go.RowKit
/- Layer 4, the program: which records may be. -/
/-- A record, by value: its tags' slice, and what it holds. -/
def recV (t : Value) (r : Rec.R) : Value := .agg #[.int .i64 r.client, .int .i64 r.number, t, .string ⟨r.data.toArray⟩]
def IsRec (w : World) (v : Value) (r : Rec.R) : Prop := ∃ t, v = recV t r ∧ Ints w t r.tags
theorem IsRec.below {w w' : World} {v : Value} {r : Rec.R} (h : IsRec w v r) (hb : Below w.heap.size w w') : IsRec w' v r := by
  obtain ⟨t, rfl, h⟩ := h
  exact ⟨t, rfl, h.below hb⟩
theorem box_rec (w : World) (c n : Int) (t : Value) (s : ByteArray) : (Instr.box 62 (.agg #[.int .i64 c, .int .i64 n, t, .string s])).run Try.prog w = .ok (.pointer (some ⟨w.heap.size, 0, none⟩)) (w.alloc (.cells #[.int .i64 c, .int .i64 n, t, .string s] 62)) := by kernel_rfl

def Rec.tagsOk (ns : List Int) : Bool := decide (ns.length ≤ 8) && Rec.rising 0 ns
theorem Rec.right_eq (r : Rec.R) : Rec.right r = (Rec.okId r.client && (Rec.okId r.number && (Rec.tagsOk r.tags && decide (r.data.length ≤ 1024)))) := by
  unfold Rec.right Rec.tagsOk
  have e : decide (r.tags.length ≤ 8 ∧ r.data.length ≤ 1024) = (decide (r.tags.length ≤ 8) && decide (r.data.length ≤ 1024)) := by rw [Bool.decide_and]
  rw [e]
  cases Rec.okId r.client <;> cases Rec.okId r.number <;> cases Rec.rising 0 r.tags <;> cases decide (r.tags.length ≤ 8) <;> cases decide (r.data.length ≤ 1024) <;> rfl

set_option maxHeartbeats 1000000 in
theorem isCount4_any (n : Int) (w : World) : Calls Try.prog 82 #[.int .i64 n] w fun e w' => e = .returned (.bool (Rec.okId n)) ∧ w = w' := by
  by_cases h0 : 0 ≤ n
  · by_cases h1 : n ≤ 1099511627776
    · have e : Rec.okId n = true := by unfold Rec.okId; simp; omega
      rw [e]
      clear e
      go_enter Try.func82, Try.ntmps82
      go_wp2
      go_ret
      exact ⟨rfl, rfl⟩
    · have e : Rec.okId n = false := by unfold Rec.okId; simp; omega
      rw [e]
      clear e
      go_enter Try.func82, Try.ntmps82
      go_wp2
      go_ret
      exact ⟨rfl, rfl⟩
  · have e : Rec.okId n = false := by unfold Rec.okId; simp; omega
    rw [e]
    clear e
    go_enter Try.func82, Try.ntmps82
    go_wp2
    go_ret
    exact ⟨rfl, rfl⟩

/-- The last of the first k, or 0. -/
def Rec.lastOf (l : List Int) : Int := l.getLast?.getD 0
theorem Rec.rising_snoc (last : Int) (l : List Int) (x : Int) : Rec.rising last (l ++ [x]) = (Rec.rising last l && decide ((if l = [] then last else Rec.lastOf l) < x ∧ x ≤ 1073741824)) := by
  induction l generalizing last with
  | nil => simp [Rec.rising]
  | cons t l ih =>
    have e : (if l = [] then t else Rec.lastOf l) = Rec.lastOf (t :: l) := by
      cases l with
      | nil => rfl
      | cons a l => simp [Rec.lastOf, List.getLast?_cons]
    simp only [List.cons_append, Rec.rising, ih, e, Bool.and_assoc, if_neg (List.cons_ne_nil t l)]
theorem Rec.rising_snoc0 (l : List Int) (x : Int) : Rec.rising 0 (l ++ [x]) = (Rec.rising 0 l && decide (Rec.lastOf l < x ∧ x ≤ 1073741824)) := by
  rw [Rec.rising_snoc]
  cases l with
  | nil => rfl
  | cons a l => rw [if_neg (List.cons_ne_nil a l)]
theorem Rec.lastOf_snoc (l : List Int) (x : Int) : Rec.lastOf (l ++ [x]) = x := by
  simp [Rec.lastOf]
theorem Rec.rising_take {l : List Int} (k : Nat) (h : Rec.rising 0 (l.take k) = false) : Rec.rising 0 l = false := by
  have key : ∀ (l : List Int) (last : Int) (k : Nat), Rec.rising last (l.take k) = false → Rec.rising last l = false := by
    intro l
    induction l with
    | nil => intro last k h; simpa using h
    | cons t l ih =>
      intro last k h
      cases k with
      | zero => simp [Rec.rising] at h
      | succ k =>
        simp only [List.take_succ_cons, Rec.rising, Bool.and_eq_false_iff] at h ⊢
        rcases h with h | h
        · exact .inl h
        · exact .inr (ih t k h)
  exact key l 0 k h

set_option maxHeartbeats 2000000 in
theorem areTags_any (v : Value) (ns : List Int) (w : World) (hv : Ints w v ns) :
    Calls Try.prog 83 #[v] w fun e w' => e = .returned (.bool (Rec.tagsOk ns)) ∧ w = w' := by
  obtain ⟨a, cap, rfl, hcap, hmax, _, hc⟩ := hv.open
  unfold maxLen at hmax
  by_cases h8 : (8 : Int) < (ns.length : Int)
  · have e : Rec.tagsOk ns = false := by unfold Rec.tagsOk; rw [decide_eq_false (by omega)]; rfl
    rw [e]
    clear e hc hv
    go_enter Try.func83, Try.ntmps83
    go_wp2
    go_ret
    exact ⟨rfl, rfl⟩
  · have e : Rec.tagsOk ns = Rec.rising 0 ns := by unfold Rec.tagsOk; rw [decide_eq_true (by omega)]; rfl
    rw [e]
    clear e hv
    go_enter Try.func83, Try.ntmps83
    go_wp2
    go_loop [3, 5, 11] (fun s _ i => ∃ k : Nat, k ≤ ns.length ∧ i = .int .i64 k ∧ (∃ m : Int, s = .int .i64 m ∧ Hid (m = Rec.lastOf (ns.take k))) ∧ Hid (Rec.rising 0 (ns.take k) = true)) (fun _ _ i => ns.length - (intOf i).toNat)
    case atStart => exact ⟨0, by omega, rfl, ⟨0, rfl, rfl⟩, rfl⟩
    case round =>
      obtain ⟨k, hk, rfl, ⟨m, rfl, hm⟩, hr⟩ := hrel
      by_cases hlt : k < ns.length
      · obtain ⟨b, off, rfl, hcell⟩ := hc k hlt
        clear hc
        have hnext : Rec.rising 0 (ns.take (k + 1)) = decide (m < ns[k] ∧ ns[k] ≤ 1073741824) := by
          rw [take_succ_getD ns k hlt, Rec.rising_snoc0, hr.out, hm.out]
          rfl
        have hlast : Rec.lastOf (ns.take (k + 1)) = ns[k] := by rw [take_succ_getD ns k hlt, Rec.lastOf_snoc]
        by_cases h0 : ns[k] ≤ m
        · have e := Lib.hid (Rec.rising_take (l := ns) (k + 1) (by rw [hnext]; simp; omega))
          clear hnext hlast
          go_wp2
          go_ret
          exact ⟨by rw [e.out]; rfl, rfl⟩
        · by_cases h1 : (1073741824 : Int) < ns[k]
          · have e := Lib.hid (Rec.rising_take (l := ns) (k + 1) (by rw [hnext]; simp; omega))
            clear hnext hlast
            go_wp2
            go_ret
            exact ⟨by rw [e.out]; rfl, rfl⟩
          · have ok := Lib.hid (show Rec.rising 0 (ns.take (k + 1)) = true by rw [hnext]; simp; omega)
            have HL := Lib.hid hlast
            clear hnext hlast
            go_wp2
            go_round
            case rel => exact ⟨k + 1, by omega, by go_num, ⟨_, rfl, HL.out.symm⟩, ok⟩
            case measure => simp [intOf]; omega
      · have hs : Hid (Rec.rising 0 ns = true) := by
          have := hr.out; rw [List.take_of_length_le (by omega)] at this; exact this
        clear hr hc hm
        go_wp2
        go_ret
        exact ⟨by rw [hs.out]; rfl, rfl⟩

set_option maxHeartbeats 2000000 in
theorem right4_any (v : Value) (r : Rec.R) (w : World) (hv : IsRec w v r) :
    Calls Try.prog 71 #[v] w fun e w' => e = .returned (.bool (Rec.right r)) ∧ Ext w w' := by
  obtain ⟨t, rfl, ht⟩ := hv
  have hbx := box_rec
  unfold recV
  rw [Rec.right_eq]
  have HT := Lib.hid ht
  obtain ⟨a, cap, rfl, hcap, hmax, _, _⟩ := ht.open
  unfold maxLen at hmax
  have hs := str_len r.data
  clear ht
  cases h1 : Rec.okId r.client with
  | false =>
    have H1 := Lib.hid h1
    clear h1
    go_enter Try.func71, Try.ntmps71
    go_wp2_with fail
    refine (isCount4_any _ _).mono ?_
    rintro e w1 ⟨rfl, rfl⟩
    rw [H1.out]
    go_wp2_with fail
    go_ret
    exact ⟨rfl, Ext.alloc _ _⟩
  | true =>
    cases h2 : Rec.okId r.number with
    | false =>
      have H1 := Lib.hid h1
      have H2 := Lib.hid h2
      clear h1 h2
      go_enter Try.func71, Try.ntmps71
      go_wp2_with fail
      refine (isCount4_any _ _).mono ?_
      rintro e w1 ⟨rfl, rfl⟩
      rw [H1.out]
      go_wp2_with fail
      refine (isCount4_any _ _).mono ?_
      rintro e w1 ⟨rfl, rfl⟩
      rw [H2.out]
      go_wp2_with fail
      go_ret
      exact ⟨rfl, Ext.alloc _ _⟩
    | true =>
      cases h3 : Rec.tagsOk r.tags with
      | false =>
        have H1 := Lib.hid h1
        have H2 := Lib.hid h2
        have H3 := Lib.hid h3
        clear h1 h2 h3
        go_enter Try.func71, Try.ntmps71
        go_wp2_with fail
        refine (isCount4_any _ _).mono ?_
        rintro e w1 ⟨rfl, rfl⟩
        rw [H1.out]
        go_wp2_with fail
        refine (isCount4_any _ _).mono ?_
        rintro e w1 ⟨rfl, rfl⟩
        rw [H2.out]
        go_wp2_with fail
        refine (areTags_any _ r.tags _ (HT.out.below (Ext.alloc _ _))).mono ?_
        rintro e w1 ⟨rfl, rfl⟩
        rw [H3.out]
        go_wp2_with fail
        go_ret
        exact ⟨rfl, Ext.alloc _ _⟩
      | true =>
        have H1 := Lib.hid h1
        have H2 := Lib.hid h2
        have H3 := Lib.hid h3
        clear h1 h2 h3
        have hd : decide (r.data.length ≤ 1024) = decide ((r.data.length : Int) ≤ 1024) := by
          rw [Bool.eq_iff_iff, decide_eq_true_eq, decide_eq_true_eq]
          omega
        have hd' := Lib.hid hd
        clear hd
        go_enter Try.func71, Try.ntmps71
        go_wp2_with fail
        refine (isCount4_any _ _).mono ?_
        rintro e w1 ⟨rfl, rfl⟩
        rw [H1.out]
        go_wp2_with fail
        refine (isCount4_any _ _).mono ?_
        rintro e w1 ⟨rfl, rfl⟩
        rw [H2.out]
        go_wp2_with fail
        refine (areTags_any _ r.tags _ (HT.out.below (Ext.alloc _ _))).mono ?_
        rintro e w1 ⟨rfl, rfl⟩
        rw [H3.out]
        go_wp2_with fail
        go_ret
        exact ⟨by rw [hd'.out]; rfl, Ext.alloc _ _⟩

set_option linter.unusedSimpArgs false
set_option linter.unusedVariables false
/- Layer 4, the program: records as bytes. -/
/-- Block p is a record. -/
def RecAt (w : World) (p : Nat) (t : Value) (r : Rec.R) : Prop := w.heap[p]? = some (.cells #[.int .i64 r.client, .int .i64 r.number, t, .string ⟨r.data.toArray⟩] 62 (0, 0))
theorem RecAt.new (w : World) (t : Value) (r : Rec.R) : RecAt (w.alloc (.cells #[.int .i64 r.client, .int .i64 r.number, t, .string ⟨r.data.toArray⟩] 62)) w.heap.size t r := heap_alloc_new w _
theorem RecAt.lt {w : World} {p : Nat} {t : Value} {r : Rec.R} (h : RecAt w p t r) : p < w.heap.size := (Array.getElem?_eq_some_iff.1 h).1
theorem RecAt.ext {w w' : World} {p : Nat} {t : Value} {r : Rec.R} (h : RecAt w p t r) (hE : Ext w w') : RecAt w' p t r := (hE.block p h.lt).trans h
theorem RecAt.but {w w' : World} {p q : Nat} {t : Value} {r : Rec.R} (h : RecAt w p t r) (hB : But q w w') (hne : p ≠ q) : RecAt w' p t r := (hB.block p h.lt hne).trans h
theorem RecAt.cells {w : World} {p : Nat} {t : Value} {r : Rec.R} (h : RecAt w p t r) : w.cell? ⟨p, 0, none⟩ = some (.int .i64 r.client) ∧ w.cell? ⟨p, 1, none⟩ = some (.int .i64 r.number) ∧ w.cell? ⟨p, 2, none⟩ = some t ∧ w.cell? ⟨p, 3, none⟩ = some (.string ⟨r.data.toArray⟩) :=
  ⟨cell_of_heap h 0, cell_of_heap h 1, cell_of_heap h 2, cell_of_heap h 3⟩

def recErr : Bool → Int
  | true => 0
  | false => 40
@[simp] theorem recErr_true : recErr true = 0 := rfl
@[simp] theorem recErr_false : recErr false = 40 := rfl
theorem Yield.ld {P : Program} {o : Oper} {ev : Operand → Value} {w : World} {R : Value → World → Prop} {t : TypeId} {x : Operand} {u v : Value} {w' : World} (ho : o.op = .load t x) (hx : ev x = u) (hr : (Instr.loadAt t u).run P w = .ok v w') (h : R v w') : Yield P o ev w R := by
  unfold Yield execOp
  simp only [ho, hx, Sem.run_bind, hr, Result.andThen_ok, Sem.run_pure]
  exact h
/- Layer 4, the program: bytes as records. -/
def noRec : Rec.R := ⟨0, 0, [], []⟩
def RowRec (w : World) (v : Value) (r : Rec.R) : Prop := ∃ t, v = recV t r ∧ RowI w t r.tags
theorem RowRec.is {w : World} {v : Value} {r : Rec.R} (h : RowRec w v r) : IsRec w v r := by
  obtain ⟨t, e, h⟩ := h
  exact ⟨t, e, h.ints⟩
/-- The same, of new blocks. -/
def RowF (B : Nat) (w : World) (v : Value) (l : List Int) : Prop := ∃ b n, B ≤ b ∧ w.ownsRow b 3 1 v n (i64s l)
theorem RowF.nil (B : Nat) (w : World) : RowF B w (.slice none 0 0) [] := ⟨B, 0, Nat.le_refl _, World.ownsRow_nil _ _ _ _⟩
theorem RowF.row {B : Nat} {w : World} {v : Value} {l : List Int} (h : RowF B w v l) : RowI w v l := by
  obtain ⟨b, n, _, h⟩ := h
  exact ⟨b, n, h⟩
def RowRecF (B : Nat) (w : World) (v : Value) (r : Rec.R) : Prop := ∃ t, v = recV t r ∧ RowF B w t r.tags
theorem RowRecF.row {B : Nat} {w : World} {v : Value} {r : Rec.R} (h : RowRecF B w v r) : RowRec w v r := by
  obtain ⟨t, e, h⟩ := h
  exact ⟨t, e, h.row⟩
theorem build_rec0 (w : World) : (Instr.build 62 #[]).run Try.prog w = .ok (.agg #[.int .i64 0, .int .i64 0, .slice none 0 0, .string ⟨#[]⟩]) w := by kernel_rfl
theorem RecAt.zero (w : World) : RecAt (w.alloc (.cells #[.int .i64 0, .int .i64 0, .slice none 0 0, .string ⟨#[]⟩] 62)) w.heap.size (.slice none 0 0) noRec := by
  unfold RecAt noRec
  exact heap_alloc_new w _

theorem set_four {w : World} {q : Nat} {x0 x1 x2 x3 : Value} {T : TypeId} (h : w.heap[q]? = some (.cells #[x0, x1, x2, x3] T (0, 0))) (v0 v1 v2 v3 : Value) :
    ((((w.setCell ⟨q, 0, none⟩ v0).setCell ⟨q, 1, none⟩ v1).setCell ⟨q, 2, none⟩ v2).setCell ⟨q, 3, none⟩ v3).heap[q]? = some (.cells #[v0, v1, v2, v3] T (0, 0)) ∧ But q w ((((w.setCell ⟨q, 0, none⟩ v0).setCell ⟨q, 1, none⟩ v1).setCell ⟨q, 2, none⟩ v2).setCell ⟨q, 3, none⟩ v3) := by
  refine ⟨?_, ((((But.refl _ _).setCell 0 none v0).setCell 1 none v1).setCell 2 none v2).setCell 3 none v3⟩
  have := heap_setCell (heap_setCell (heap_setCell (heap_setCell h 0 v0) 1 v1) 2 v2) 3 v3
  simpa using this
theorem RecAt.set {w : World} {p : Nat} {t : Value} {r : Rec.R} (h : RecAt w p t r) (t' : Value) (r' : Rec.R) :
    RecAt ((((w.setCell ⟨p, 0, none⟩ (.int .i64 r'.client)).setCell ⟨p, 1, none⟩ (.int .i64 r'.number)).setCell ⟨p, 2, none⟩ t').setCell ⟨p, 3, none⟩ (.string ⟨r'.data.toArray⟩)) p t' r' ∧
    But p w ((((w.setCell ⟨p, 0, none⟩ (.int .i64 r'.client)).setCell ⟨p, 1, none⟩ (.int .i64 r'.number)).setCell ⟨p, 2, none⟩ t').setCell ⟨p, 3, none⟩ (.string ⟨r'.data.toArray⟩)) := set_four h _ _ _ _
theorem RecAt.tags {w : World} {p : Nat} {t t' : Value} {c n : Int} {ts ts' : List Int} {d : List UInt8} (h : RecAt w p t ⟨c, n, ts, d⟩) : RecAt (w.setCell ⟨p, 2, none⟩ t') p t' ⟨c, n, ts', d⟩ := by
  have := heap_setCell h 2 t'
  unfold RecAt
  simpa using this
theorem RecAt.later {w : World} {p : Nat} {t : Value} {r : Rec.R} {o : Obj} (h : RecAt w p t r) : p ≤ (w.alloc o).heap.size := by
  have := h.lt
  rw [World.size_alloc]
  omega
theorem RecAt.data {w : World} {p : Nat} {t : Value} {c n : Int} {ts : List Int} {d : List UInt8} (h : RecAt w p t ⟨c, n, ts, d⟩) (d' : List UInt8) : RecAt (w.setCell ⟨p, 3, none⟩ (.string ⟨d'.toArray⟩)) p t ⟨c, n, ts, d'⟩ := by
  have := heap_setCell h 3 (.string ⟨d'.toArray⟩)
  unfold RecAt
  simpa using this
theorem RecAt.name {w : World} {p : Nat} {t : Value} {c n : Int} {ts ts' : List Int} {d : List UInt8} (h : RecAt w p t ⟨c, n, ts, d⟩) : RecAt w p t ⟨c, n, ts', d⟩ := h
/- Layer 4, the program: tags, sameness, places. -/
/- Layer 4, the program: one record, or two. -/
theorem bytes_eq (a b : List UInt8) : ((⟨a.toArray⟩ : ByteArray) = ⟨b.toArray⟩) ↔ a = b := by
  constructor
  · intro h
    have := congrArg (fun x => x.data.toList) h
    simpa using this
  · rintro rfl; rfl
set_option maxHeartbeats 2000000 in
theorem same4_any (v u : Value) (a b : Rec.R) (w : World) (hv : IsRec w v a) (hu : IsRec w u b) :
    Calls Try.prog 72 #[v, u] w fun e w' => e = .returned (.bool (Rec.same a b)) ∧ Ext w w' := by
  have hbx := box_rec
  obtain ⟨t, rfl, ht⟩ := hv
  obtain ⟨t2, rfl, ht2⟩ := hu
  obtain ⟨c, n, ts, d⟩ := a
  obtain ⟨c2, n2, ts2, d2⟩ := b
  unfold recV at *
  simp only at ht ht2 ⊢
  obtain ⟨a1, cap1, rfl, hcap1, hmax1, _, _⟩ := ht.open
  obtain ⟨a2, cap2, rfl, hcap2, hmax2, _, _⟩ := ht2.open
  unfold maxLen at hmax1 hmax2
  have HT := Lib.hid ht
  have HT2 := Lib.hid ht2
  clear ht ht2
  have hE : Ext w ((w.alloc (.cells #[.int .i64 c, .int .i64 n, .slice a1 ts.length cap1, .string ⟨d.toArray⟩] 62)).alloc (.cells #[.int .i64 c2, .int .i64 n2, .slice a2 ts2.length cap2, .string ⟨d2.toArray⟩] 62)) := ext_two _ _ _
  have HH := Lib.hid (heap_two w (.cells #[.int .i64 c, .int .i64 n, .slice a1 ts.length cap1, .string ⟨d.toArray⟩] 62) (.cells #[.int .i64 c2, .int .i64 n2, .slice a2 ts2.length cap2, .string ⟨d2.toArray⟩] 62))
  by_cases h1 : c = c2
  · subst h1
    by_cases h2 : n = n2
    · subst h2
      have e0 := Lib.hid (show Rec.same ⟨c, n, ts, d⟩ ⟨c, n, ts2, d2⟩ = ((ts == ts2) && (d == d2)) by unfold Rec.same; simp)
      cases h3 : (ts == ts2) with
      | false =>
        rw [h3] at e0
        have H3 := Lib.hid h3
        clear h3
        go_enter Try.func72, Try.ntmps72
        go_wp2_with fail
        refine (equalS_any _ _ ts ts2 _ (HT.out.below hE) (HT2.out.below hE)).mono ?_
        rw [H3.out]
        rintro e w3 ⟨rfl, hE3⟩
        go_wp2_with fail
        go_ret
        exact ⟨by rw [e0.out]; rfl, hE.trans hE3⟩
      | true =>
        rw [h3] at e0
        have H3 := Lib.hid h3
        have hd := bytes_eq d d2
        clear h3
        go_enter Try.func72, Try.ntmps72
        go_wp2_with fail
        refine (equalS_any _ _ ts ts2 _ (HT.out.below hE) (HT2.out.below hE)).mono ?_
        rw [H3.out]
        rintro e w3 ⟨rfl, hE3⟩
        have z1 := cell_of_heap (heap_ext HH.out.1 hE3) 3
        have z2 := cell_of_heap (heap_ext HH.out.2 hE3) 3
        simp at z1 z2
        go_wp2_with fail
        go_ret
        exact ⟨by rw [e0.out]; rfl, hE.trans hE3⟩
    · have e := Lib.hid (show Rec.same ⟨c, n, ts, d⟩ ⟨c, n2, ts2, d2⟩ = false by unfold Rec.same; simp [h2])
      go_enter Try.func72, Try.ntmps72
      go_wp2_with fail
      go_ret
      exact ⟨by rw [e.out]; rfl, hE⟩
  · have e := Lib.hid (show Rec.same ⟨c, n, ts, d⟩ ⟨c2, n2, ts2, d2⟩ = false by unfold Rec.same; simp [h1])
    go_enter Try.func72, Try.ntmps72
    go_wp2_with fail
    go_ret
    exact ⟨by rw [e.out]; rfl, hE⟩

end Go.Proofs.Ytnoeconcpgdjlaa

namespace Go.Proofs.Ytnoeconcpgdjlaa
set_option linter.unusedSimpArgs false
set_option linter.unusedVariables false
set_option maxRecDepth 100000
open Go.ChangeShapes Go.WideShapes Go.ChangeAt Go.RowKit
/- Layer 4: a record out of what comes in. -/
section
variable {H : Type} {enc : TypeId × Value → H} {w : World} {base : Nat} {spare : Nat → Bool} {held : Bool}

theorem four_of {α : Type} {l : List α} (h : l.length = 4) : ∃ a b c d, l = [a, b, c, d] := by
  match l, h with
  | [a, b, c, d], _ => exact ⟨a, b, c, d, rfl⟩
theorem three_of {α : Type} {l : List α} (h : l.length = 3) : ∃ a b c, l = [a, b, c] := by
  match l, h with
  | [a, b, c], _ => exact ⟨a, b, c, rfl⟩
theorem two_ofR {α : Type} {l : List α} (h : l.length = 2) : ∃ a b, l = [a, b] := by
  match l, h with
  | [a, b], _ => exact ⟨a, b, rfl⟩
set_option maxRecDepth 100000 in
theorem id_of_raw {fuel : Nat} {cs : List Value} {x : DataW H × List MemPlace} (h : DataW.trod enc Try.prog w base spare held fuel 60 cs = some x) : ∃ c n : Int, cs = [.int .i64 c, .int .i64 n] := by
  obtain ⟨xs, n, _, rfl, hl, hlen, hf⟩ := DataW.trod_struct Try.underlying60 h
  have hc : Try.prog.cellsOf 60 = 2 := by kernel_rfl
  have hi : Try.prog.cellsOf 3 = 1 := by kernel_rfl
  rw [hc] at hl
  obtain ⟨c0, c1, rfl⟩ := two_ofR hl
  obtain ⟨y0, y1, rfl⟩ := two_ofR hlen
  have f0 := hf 0 _ rfl
  have f1 := hf 1 _ rfl
  simp only [hi, List.drop_zero, List.drop_succ_cons, List.take_succ_cons, List.take_zero, List.getElem?_cons_zero, List.getElem?_cons_succ] at f0 f1
  obtain ⟨n0, e0, _, _⟩ := DataW.trod_int Try.underlying3 f0
  obtain ⟨n1, e1, _, _⟩ := DataW.trod_int Try.underlying3 f1
  injection e0 with e0 _
  injection e1 with e1 _
  subst e0 e1
  exact ⟨n0, n1, rfl⟩
set_option maxRecDepth 100000 in
theorem rec_of_raw {fuel : Nat} {cs : List Value} {x : DataW H × List MemPlace} (h : DataW.trod enc Try.prog w base spare held fuel 62 cs = some x) :
    ∃ (t : Value) (r : Rec.R), cs = [.int .i64 r.client, .int .i64 r.number, t, .string ⟨r.data.toArray⟩] ∧ Ints w t r.tags := by
  obtain ⟨xs, n, _, rfl, hl, hlen, hf⟩ := DataW.trod_struct Try.underlying62 h
  have hc : Try.prog.cellsOf 62 = 4 := by kernel_rfl
  have hd : Try.prog.cellsOf 60 = 2 := by kernel_rfl
  have hi : Try.prog.cellsOf 3 = 1 := by kernel_rfl
  have hii : Try.prog.cellsOf 22 = 1 := by kernel_rfl
  have hs : Try.prog.cellsOf 9 = 1 := by kernel_rfl
  rw [hc] at hl
  obtain ⟨c0, c1, c2, c3, rfl⟩ := four_of hl
  obtain ⟨y0, y1, y2, rfl⟩ := three_of hlen
  have f0 := hf 0 _ rfl
  have f1 := hf 1 _ rfl
  have f2 := hf 2 _ rfl
  simp only [hd, hii, hs, List.drop_zero, List.drop_succ_cons, List.take_succ_cons, List.take_zero, List.getElem?_cons_zero, List.getElem?_cons_succ] at f0 f1 f2
  obtain ⟨n0, n1, e0⟩ := id_of_raw f0
  obtain ⟨v, l, e1, hv⟩ := ints_of_raw Try.underlying22 Try.underlying3 hi f1
  obtain ⟨s, e2, _, _⟩ := DataW.trod_string Try.underlying9 f2
  injection e0 with e00 e0
  injection e0 with e01 _
  injection e1 with e1 _
  injection e2 with e2 _
  subst e00 e01 e1 e2
  exact ⟨_, ⟨n0, n1, l, s.data.toList⟩, by simp, hv⟩
end
end Go.Proofs.Ytnoeconcpgdjlaa
