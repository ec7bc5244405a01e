/-
  Layer 1: tables, as the statements meet them: whatever they have counted.
-/
import Derived.Test.YtpefengjpedifaaCrcLaw
import Derived.Test.YtpefengjpedifaaCrcRef
import Derived.Test.YtpefengjpedifaaRead
import Derived.Test.YtpefengjpedifaaRows
namespace Go.Proofs.Ytpefengjpedifaa
set_option maxRecDepth 100000
open Go.RowKit

/-- Block p is a table. -/
def TB (w : World) (p : Nat) : Prop := ∃ d c, (d = 0 ∨ d = 1) ∧ Tab w p d c
theorem TB.lt {w : World} {p : Nat} (h : TB w p) : p < w.heap.size := by obtain ⟨d, c, _, h⟩ := h; exact h.lt
theorem TB.ext {w w' : World} {p : Nat} (h : TB w p) (hb : Ext w w') : TB w' p := by obtain ⟨d, c, hd, h⟩ := h; exact ⟨d, c, hd, h.ext hb⟩
theorem TB.other {w w' : World} {p q : Nat} (h : TB w p) (hb : But q w w') (hne : p ≠ q) : TB w' p := by
  obtain ⟨d, c, hd, h⟩ := h
  refine ⟨d, c, hd, ?_⟩
  have := h.lt
  unfold Tab at h ⊢
  rw [hb.block p this hne]; exact h

/-- These tables are there. -/
def TBs (ps : List Nat) (w : World) : Prop := ∀ p ∈ ps, TB w p
/-- All but these tables is as it was, and they are tables still. -/
structure LT (ps : List Nat) (a b : World) : Prop where
  os : b.os = a.os
  tape : b.tape = a.tape
  output : b.output = a.output
  size : a.heap.size ≤ b.heap.size
  block : ∀ k, k < a.heap.size → k ∉ ps → b.heap[k]? = a.heap[k]?
  tabs : TBs ps a → TBs ps b
theorem LT.refl (ps : List Nat) (a : World) : LT ps a a := ⟨rfl, rfl, rfl, Nat.le_refl _, fun _ _ _ => rfl, fun h => h⟩
theorem LT.trans {ps : List Nat} {a b c : World} (h : LT ps a b) (k : LT ps b c) : LT ps a c :=
  ⟨k.os.trans h.os, k.tape.trans h.tape, k.output.trans h.output, Nat.le_trans h.size k.size, fun i hi hp => (k.block i (Nat.lt_of_lt_of_le hi h.size) hp).trans (h.block i hi hp), fun t => k.tabs (h.tabs t)⟩
theorem LT.ext {ps : List Nat} {a b : World} (h : Ext a b) : LT ps a b := ⟨h.os, h.tape, h.output, h.size, fun k hk _ => h.block k hk, fun t p hp => (t p hp).ext h⟩
theorem LT.but {ps : List Nat} {p : Nat} {a b : World} (hp : p ∈ ps) (h : But p a b) (ht : TB b p) : LT ps a b :=
  ⟨h.os, h.tape, h.output, h.size, fun k hk hn => h.block k hk (fun e => hn (e ▸ hp)), fun t q hq => by
    by_cases e : q = p
    · subst e; exact ht
    · exact (t q hq).other h e⟩
theorem LT.drew (ps : List Nat) (w : World) : LT ps w w.drew := LT.ext (Ext.drew w)
theorem LT.below {ps : List Nat} {B : Nat} {a b : World} (h : LT ps a b) (hB : B ≤ a.heap.size) (hp : ∀ p ∈ ps, B ≤ p) : Below B a b :=
  ⟨h.os, h.tape, h.output, h.size, fun k hk => h.block k (by omega) (fun hm => by have := hp k hm; omega)⟩

theorem Sl.lt {ps : List Nat} {a b : World} {v : Value} {xs : List Value} (h : Sl a v xs) (hx : ∀ x ∈ xs, ∀ k n, x = .int k n → k = .u8) (ht : TBs ps a) (hb : LT ps a b) : Sl b v xs := by
  obtain ⟨ad, cap, rfl, h1, h2, h4, h3⟩ := h
  refine ⟨ad, cap, rfl, h1, h2, h4, fun i hi => ?_⟩
  obtain ⟨q, off, e, hc⟩ := h3 i hi
  refine ⟨q, off, e, ?_⟩
  have hne : q ∉ ps := by
    intro hq
    obtain ⟨d, c, _, hT⟩ := ht q hq
    rw [hT.cell] at hc
    obtain ⟨k, n, e, hk⟩ := tabCells_int _ _ _ _ (List.mem_of_getElem? hc)
    exact hk (hx _ (List.getElem_mem hi) k n e)
  rw [World.cell?_of_block (w := a) (hb.block q (World.block_lt_of_cell? a _ hc) hne)]
  exact hc
theorem Bytes.lt {ps : List Nat} {a b : World} {v : Value} {l : List UInt8} (h : Bytes a v l) (ht : TBs ps a) (hb : LT ps a b) : Bytes b v l :=
  Sl.lt h (fun x hx k n e => by
    obtain ⟨y, _, rfl⟩ := List.mem_map.1 hx
    injection e with e1 _
    exact e1.symm) ht hb
theorem Rows.lt {ps : List Nat} {a b : World} {v : Value} {ls : List (List UInt8)} (h : Rows a v ls) (ht : TBs ps a) (hb : LT ps a b) : Rows b v ls := by
  obtain ⟨xs, h1, h2, h3⟩ := h
  refine ⟨xs, h1.lt (fun x hx k n e => ?_) ht hb, h2, fun i h h' => (h3 i h h').lt ht hb⟩
  obtain ⟨i, hi, rfl⟩ := List.getElem_of_mem hx
  obtain ⟨aa, m, c, e'⟩ := (h3 i hi (by omega)).isSlice
  rw [e'] at e
  cases e

theorem LT.grown {ps : List Nat} {a b c : World} (h : LT ps a b) {row : Option Nat} (hg : b.grownBy c row) (hr : ∀ k, row = some k → a.heap.size ≤ k ∧ k ∉ ps) : LT ps a c :=
  ⟨hg.os.trans h.os, hg.tape.trans h.tape, hg.output.trans h.output, Nat.le_trans h.size hg.size,
    fun k hk hn => (hg.block k (Nat.lt_of_lt_of_le hk h.size) (fun e => by have := (hr k e.symm).1; omega)).trans (h.block k hk hn),
    fun t p hp => by
      obtain ⟨d, n, hd, hT⟩ := h.tabs t p hp
      refine ⟨d, n, hd, ?_⟩
      have hlt := hT.lt
      unfold Tab at hT ⊢
      rw [hg.block p hlt (fun e => (hr p e.symm).2 hp)]
      exact hT⟩
theorem ownsRow_lt {ps : List Nat} {a b : World} {base : Nat} {e : TypeId} {size : Nat} {v : Value} {n : Nat} {xs : List Value} (h : a.ownsRow base e size v n xs) (hl : LT ps a b) (hv : ∀ g, v.ownBlock = some g → g ∉ ps) : b.ownsRow base e size v n xs := by
  refine ⟨h.1, ?_⟩
  rcases h.2 with h0 | ⟨g, cap, cur, rfl, hb, hg, hr⟩
  · exact .inl h0
  · refine .inr ⟨g, cap, cur, rfl, hb, ?_, hr⟩
    rw [hl.block g (by exact (Array.getElem?_eq_some_iff.1 hg).1) (hv g rfl)]
    exact hg

/-- A reading beside tables. -/
def BT (ps : List Nat) (w : World) (v : Value) (l : List UInt8) : Prop := Bytes w v l ∧ TBs ps w
def RT (ps : List Nat) (w : World) (v : Value) (ls : List (List UInt8)) : Prop := Rows w v ls ∧ TBs ps w
theorem BT.later {ps : List Nat} {a b : World} {v : Value} {l : List UInt8} (h : BT ps a v l) (hb : LT ps a b) : BT ps b v l := ⟨h.1.lt h.2 hb, hb.tabs h.2⟩
theorem RT.later {ps : List Nat} {a b : World} {v : Value} {ls : List (List UInt8)} (h : RT ps a v ls) (hb : LT ps a b) : RT ps b v ls := ⟨h.1.lt h.2 hb, hb.tabs h.2⟩

/-- The calls, by what they leave. -/
theorem sumT {ps : List Nat} {p : Nat} (hp : p ∈ ps) {w : World} {v : Value} {ls : List (List UInt8)} (h : RT ps w v ls) :
    Calls Try.prog 74 #[.pointer (some ⟨p, 0, none⟩), v] w fun e w' => e = .returned (.int .u32 (Crc.sum ls.flatten : Nat)) ∧ LT ps w w' := by
  obtain ⟨d, c, hd, ht⟩ := h.2 p hp
  refine (sum_any p d c v ls w ht hd h.1).mono fun e w' ⟨he, hb, d', hd', ht'⟩ => ⟨he, LT.but hp hb ⟨d', _, hd', ht'⟩⟩
theorem putT {ps : List Nat} {p : Nat} (hp : p ∈ ps) {w : World} {v : Value} {l : List UInt8} (h : BT ps w v l) (hl : l.length ≤ 100000) :
    Calls Try.prog 56 #[.pointer (some ⟨p, 0, none⟩), v] w fun e w' => ∃ u, e = .returned u ∧ LT ps w w' ∧ BT ps w' u (l ++ Crc.low (Crc.sum l)) := by
  obtain ⟨d, c, hd, ht⟩ := h.2 p hp
  refine (put_any p d c v l w ht hd h.1 hl).mono fun e w' ⟨u, d', he, hu, hb, hd', ht'⟩ => ?_
  have hlt : LT ps w w' := LT.but hp hb ⟨d', _, hd', ht'⟩
  exact ⟨u, he, hlt, hu, hlt.tabs h.2⟩
/-- What Cut hands back. -/
def Cuts (ps : List Nat) (w : World) (r : Option (List UInt8)) (e : Ending) (w' : World) : Prop :=
  LT ps w w' ∧ ∃ v, (e = .returned (.tuple #[v, .bool r.isSome])) ∧ BT ps w' v (r.getD [])
theorem cutT {ps : List Nat} {p : Nat} (hp : p ∈ ps) {w : World} {v : Value} {l : List UInt8} (h : BT ps w v l) (hl : l.length ≤ 200000) :
    Calls Try.prog 85 #[.pointer (some ⟨p, 0, none⟩), v] w (Cuts ps w (Crc.cutOf l)) := by
  obtain ⟨d, c, hd, ht⟩ := h.2 p hp
  refine (cut_any p d c v l w ht hd h.1 hl).mono fun e w' ⟨⟨d', hd', ht'⟩, hb, hr⟩ => ?_
  have hlt : LT ps w w' := LT.but hp hb ⟨d', _, hd', ht'⟩
  refine ⟨hlt, ?_⟩
  cases hc : Crc.cutOf l with
  | none => rw [hc] at hr; exact ⟨_, hr, ⟨⟨none, 0, rfl, Nat.le_refl _, by simp [maxLen], fun _ => rfl, fun i hi => absurd hi (by simp)⟩, hlt.tabs h.2⟩⟩
  | some m => rw [hc] at hr; obtain ⟨u, he, hu⟩ := hr; exact ⟨u, he, hu, hlt.tabs h.2⟩
theorem newT (w : World) : Calls Try.prog 55 #[] w fun e w' => e = .returned (.pointer (some ⟨w.heap.size, 0, none⟩)) ∧ Ext w w' ∧ TB w' w.heap.size :=
  (new_any w).mono fun _ _ ⟨he, ht, hb⟩ => ⟨he, hb, 0, 0, Or.inl rfl, ht⟩
theorem TBs.one {w : World} {p : Nat} (h : TB w p) : TBs [p] w := by
  intro q hq
  simp only [List.mem_cons, List.not_mem_nil, or_false] at hq
  subst hq; exact h

theorem row1T {ps : List Nat} {w : World} {v : Value} {l : List UInt8} (h : BT ps w v l) : RT ps (w.alloc (.cells #[v] 22)) (.slice (some ⟨w.heap.size, 0, none⟩) 1 1) [l] :=
  ⟨Rows.made _ h.1, (LT.ext (Ext.alloc _ _)).tabs h.2⟩
theorem row2T {ps : List Nat} {w : World} {v u : Value} {l k : List UInt8} (h1 : BT ps w v l) (h2 : BT ps w u k) : RT ps (w.alloc (.cells #[v, u] 22)) (.slice (some ⟨w.heap.size, 0, none⟩) 2 2) [l, k] :=
  ⟨Rows.mk [v, u] [l, k] _ 2 rfl rfl (by simp [maxLen]) (fun i hi hi' => by
    have hi4 : i < 2 := by simpa using hi
    match i, hi4 with
    | 0, _ => exact h1.1
    | 1, _ => exact h2.1), (LT.ext (Ext.alloc _ _)).tabs h1.2⟩
theorem putRT {ps : List Nat} {w : World} {v : Value} {l : List UInt8} (h : BT ps w v l) (hl : l.length ≤ 100000) :
    Calls Try.prog 77 #[v] w fun e w' => ∃ u, e = .returned u ∧ LT ps w w' ∧ BT ps w' u (l ++ Crc.low (Crc.sum l)) :=
  (put_ref v l w h.1 hl).mono fun _ _ ⟨u, he, hu, hb⟩ => ⟨u, he, LT.ext hb, hu, (LT.ext hb).tabs h.2⟩
end Go.Proofs.Ytpefengjpedifaa
