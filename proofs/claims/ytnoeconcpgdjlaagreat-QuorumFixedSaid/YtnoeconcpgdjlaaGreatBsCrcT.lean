import Derived.Test.YtnoeconcpgdjlaaGreatRows
import Derived.Test.YtnoeconcpgdjlaaGreatBsCrcLaw
import Derived.Test.YtnoeconcpgdjlaaGreatBsCrcRef
import Derived.Test.YtnoeconcpgdjlaaGreatBsLib
set_option linter.unusedSimpArgs false
set_option linter.unusedVariables false
namespace Go.Proofs.YtnoeconcpgdjlaaGreat
set_option maxRecDepth 100000
open Go.RowKit
def TB (w : World) (p : Nat) : Prop := ∃ d c, (d = 0 \/ d = 1) /\ Tab w p d c
theorem TB.lt {w : World} {p : Nat} (h : TB w p) : p < w.heap.size := by obtain ⟨d, c, _, h⟩ := h; exact h.lt
theorem TB.ext {w w' : World} {p : Nat} (h : TB w p) (hb : Ext w w') : TB w' p := by obtain ⟨d, c, hd, h⟩ := h; exact ⟨d, c, hd, h.ext hb⟩
theorem TB.other {w w' : World} {p q : Nat} (h : TB w p) (hb : But q w w') (hne : p ≠ q) : TB w' p := by
 obtain ⟨d, c, hd, h⟩ := h
 refine ⟨d, c, hd, ?_⟩
 have := h.lt
 unfold Tab at h ⊢
 rw [hb.block p this hne]; exact h
def TBs (ps : List Nat) (w : World) : Prop := ∀ p ∈ ps, TB w p
structure LT (ps : List Nat) (a b : World) : Prop where
 os : b.os = a.os
 tape : b.tape = a.tape
 output : b.output = a.output
 size : a.heap.size <= b.heap.size
 block : ∀ k, k < a.heap.size -> k ∉ ps -> b.heap[k]? = a.heap[k]?
 tabs : TBs ps a -> TBs ps b
theorem LT.refl (ps : List Nat) (a : World) : LT ps a a := ⟨rfl, rfl, rfl, Nat.le_refl _, fun _ _ _ => rfl, fun h => h⟩
theorem LT.trans {ps : List Nat} {a b c : World} (h : LT ps a b) (k : LT ps b c) : LT ps a c :=
 ⟨k.os.trans h.os, k.tape.trans h.tape, k.output.trans h.output, Nat.le_trans h.size k.size, fun i hi hp => (k.block i (Nat.lt_of_lt_of_le hi h.size) hp).trans (h.block i hi hp), fun t => k.tabs (h.tabs t)⟩
theorem LT.ext {ps : List Nat} {a b : World} (h : Ext a b) : LT ps a b := ⟨h.os, h.tape, h.output, h.size, fun k hk _ => h.block k hk, fun t p hp => (t p hp).ext h⟩
theorem LT.but {ps : List Nat} {p : Nat} {a b : World} (hp : p ∈ ps) (h : But p a b) (ht : TB b p) : LT ps a b :=
 ⟨h.os, h.tape, h.output, h.size, fun k hk hn => h.block k hk (fun e => hn (e ▸ hp)), fun t q hq => by
  by_cases e : q = p
  . subst e; exact ht
  . exact (t q hq).other h e⟩
theorem LT.drew (ps : List Nat) (w : World) : LT ps w w.drew := LT.ext (Ext.drew w)
theorem LT.below {ps : List Nat} {B : Nat} {a b : World} (h : LT ps a b) (hB : B <= a.heap.size) (hp : ∀ p ∈ ps, B <= p) : Below B a b :=
 ⟨h.os, h.tape, h.output, h.size, fun k hk => h.block k (by omega) (fun hm => by have := hp k hm; omega)⟩
theorem Sl.lt {ps : List Nat} {a b : World} {v : Value} {xs : List Value} (h : Sl a v xs) (hx : ∀ x ∈ xs, ∀ k n, x = .int k n -> k = .u8) (ht : TBs ps a) (hb : LT ps a b) : Sl b v xs := by
 obtain ⟨ad, cap, rfl, h1, h2, h4, h3⟩ := h
 refine ⟨ad, cap, rfl, h1, h2, h4, fun i hi => ?_⟩
 obtain ⟨q, off, e, hc⟩ := h3 i hi
 refine ⟨q, off, e, ?_⟩
 have hne : q ∉ ps := by
  intro hq
  obtain ⟨d, c, _, hT⟩ := ht q hq
  rw [hT.cell] at hc
  obtain ⟨k, n, e, hk⟩ := ze5 _ _ _ _ (List.mem_of_getElem? hc)
  exact hk (hx _ (List.getElem_mem hi) k n e)
 rw [World.cell?_of_block (w := a) (hb.block q (World.block_lt_of_cell? a _ hc) hne)]
 exact hc
theorem Bytes.lt {ps : List Nat} {a b : World} {v : Value} {l : List UInt8} (h : Bytes a v l) (ht : TBs ps a) (hb : LT ps a b) : Bytes b v l :=
 Sl.lt h (fun x hx k n e => by
  obtain ⟨y, _, rfl⟩ := List.mem_map.1 hx
  injection e with e1 _
  exact e1.symm) ht hb
theorem Rows.lt {ps : List Nat} {a b : World} {v : Value} {ls : List (List UInt8)} (h : Rows a v ls) (ht : TBs ps a) (hb : LT ps a b) : Rows b v ls := by
 obtain ⟨xs, h1, h2, h3⟩ := h
 refine ⟨xs, h1.lt (fun x hx k n e => ?_) ht hb, h2, fun i h h' => (h3 i h h').lt ht hb⟩
 obtain ⟨i, hi, rfl⟩ := List.getElem_of_mem hx
 obtain ⟨aa, m, c, e'⟩ := (h3 i hi (by omega)).isSlice
 rw [e'] at e
 cases e
theorem LT.grown {ps : List Nat} {a b c : World} (h : LT ps a b) {row : Option Nat} (hg : b.grownBy c row) (hr : ∀ k, row = some k -> a.heap.size <= k /\ k ∉ ps) : LT ps a c :=
 ⟨hg.os.trans h.os, hg.tape.trans h.tape, hg.output.trans h.output, Nat.le_trans h.size hg.size,
  fun k hk hn => (hg.block k (Nat.lt_of_lt_of_le hk h.size) (fun e => by have := (hr k e.symm).1; omega)).trans (h.block k hk hn),
  fun t p hp => by
   obtain ⟨d, n, hd, hT⟩ := h.tabs t p hp
   refine ⟨d, n, hd, ?_⟩
   have hlt := hT.lt
   unfold Tab at hT ⊢
   rw [hg.block p hlt (fun e => (hr p e.symm).2 hp)]
   exact hT⟩
def BT (ps : List Nat) (w : World) (v : Value) (l : List UInt8) : Prop := Bytes w v l /\ TBs ps w
def RT (ps : List Nat) (w : World) (v : Value) (ls : List (List UInt8)) : Prop := Rows w v ls /\ TBs ps w
theorem BT.later {ps : List Nat} {a b : World} {v : Value} {l : List UInt8} (h : BT ps a v l) (hb : LT ps a b) : BT ps b v l := ⟨h.1.lt h.2 hb, hb.tabs h.2⟩
theorem RT.later {ps : List Nat} {a b : World} {v : Value} {ls : List (List UInt8)} (h : RT ps a v ls) (hb : LT ps a b) : RT ps b v ls := ⟨h.1.lt h.2 hb, hb.tabs h.2⟩
theorem newT (w : World) : Calls Tryz.prog 137 #[] w fun e w' => e = .returned (.pointer (some ⟨w.heap.size, 0, none⟩)) /\ Ext w w' /\ TB w' w.heap.size :=
 (zhd w).mono fun _ _ ⟨he, ht, hb⟩ => ⟨he, hb, 0, 0, Or.inl rfl, ht⟩
theorem TBs.one {w : World} {p : Nat} (h : TB w p) : TBs [p] w := by
 intro q hq
 simp only [List.mem_cons, List.not_mem_nil, or_false] at hq
 subst hq; exact h
end Go.Proofs.YtnoeconcpgdjlaaGreat
