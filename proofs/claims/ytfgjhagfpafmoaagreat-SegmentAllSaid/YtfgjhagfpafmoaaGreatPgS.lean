/-
  Merged: Layer 8, the document's answers: a store's calls.
-/
import Derived.Test.YtfgjhagfpafmoaaGreatPgR

namespace Go.Proofs.YtfgjhagfpafmoaaGreat
set_option linter.unusedSimpArgs false
set_option linter.unusedVariables false
set_option maxRecDepth 100000
open Go.RowKit
/- Layer 8, the document's answers: a store's calls. -/
/-- A document's store as a value. -/
def refStoV (a : Option Addr) (n c : Nat) (k : Int) (o : Bool) : Value := .agg #[.slice a n c, .int .i64 k, .bool o]
/-- Texts in blocks of texts. -/
def InStr (w : World) (v : Value) : Prop := ∀ ad n c, v = .slice (some ad) n c → ∃ (cs : Array Value) (fr : Nat × Nat), w.heap[ad.block]? = some (.cells cs 9 fr)
def KeepS (w w' : World) : Prop := ∀ (k : Nat) (cs : Array Value) (fr : Nat × Nat), w.heap[k]? = some (.cells cs 9 fr) → w'.heap[k]? = w.heap[k]?
theorem KeepS.refl (w : World) : KeepS w w := fun _ _ _ _ => rfl
theorem KeepS.trans {a b c : World} (h : KeepS a b) (k : KeepS b c) : KeepS a c := fun i cs fr hi => (k i cs fr ((h i cs fr hi).trans hi)).trans (h i cs fr hi)
theorem KeepS.ext {a b : World} (h : Ext a b) : KeepS a b := fun i _ _ hi => h.block i (Array.getElem?_eq_some_iff.1 hi).1
theorem KeepS.but {a b : World} {p : Nat} {cs : Array Value} {t : TypeId} {fr : Nat × Nat} (h : But p a b) (hp : a.heap[p]? = some (.cells cs t fr)) (ht : t ≠ 9) : KeepS a b := fun i cs' fr' hi =>
  h.block i (Array.getElem?_eq_some_iff.1 hi).1 (fun e => by subst e; rw [hp] at hi; simp at hi; exact ht hi.2.1)
def Txts (w : World) (v : Value) (l : List (List UInt8)) : Prop := Sl w v (txts l) ∧ InStr w v
theorem Txts.keep {a b : World} {v : Value} {l : List (List UInt8)} (h : Txts a v l) (hk : KeepS a b) : Txts b v l := by
  obtain ⟨⟨ad, cap, rfl, h1, h2, h4, h3⟩, hb⟩ := h
  constructor
  · refine ⟨ad, cap, rfl, h1, h2, h4, fun i hi => ?_⟩
    obtain ⟨q, off, e, hc⟩ := h3 i hi
    subst e
    obtain ⟨cs, fr, hq⟩ := hb _ _ _ rfl
    exact ⟨q, off, rfl, (World.cell?_of_block (hk q cs fr hq)).trans hc⟩
  · intro ad' n c e
    obtain ⟨cs, fr, hq⟩ := hb ad' n c e
    exact ⟨cs, fr, (hk _ cs fr hq).trans hq⟩
theorem Txts.ext {a b : World} {v : Value} {l : List (List UInt8)} (h : Txts a v l) (hE : Ext a b) : Txts b v l := h.keep (KeepS.ext hE)
theorem Txts.own {w : World} {base n : Nat} {v : Value} {l : List (List UInt8)} (h : w.ownsRow base 9 1 v n (txts l)) : Txts w v l := by
  refine ⟨Sl.ofOwn h, fun ad n c e => ?_⟩
  rcases h.2 with ⟨h0, _⟩ | ⟨g, cap, cur, h0, _, hg, _⟩
  · rw [h0] at e; cases e
  · rw [h0] at e; injection e with e; injection e with e; subst e
    exact ⟨_, _, hg⟩
theorem Txts.take {w : World} {a : Option Addr} {n c : Nat} {l : List (List UInt8)} (h : Txts w (.slice a n c) l) (k : Nat) (hk : k ≤ n) : Txts w (.slice a k c) (l.take k) := by
  refine ⟨?_, fun ad m d e => h.2 ad n c (by injection e with e; rw [e])⟩
  have := h.1.take k hk
  unfold txts at this ⊢
  rw [List.map_take]
  exact this
theorem Txts.open {w : World} {v : Value} {l : List (List UInt8)} (h : Txts w v l) : ∃ (a : Option Addr) (cap : Nat), v = .slice a l.length cap ∧ l.length ≤ cap ∧ cap ≤ maxLen ∧ (a = none → cap = 0) ∧
    ∀ i (hi : i < l.length), ∃ b off, a = some ⟨b, off, none⟩ ∧ w.cell? ⟨b, off + i, none⟩ = some (.string ⟨(l[i]).toArray⟩) := by
  obtain ⟨ad, cap, rfl, h1, h2, h4, h3⟩ := h.1
  refine ⟨ad, cap, by rw [txts_length], by rw [txts_length] at h1; exact h1, h2, h4, fun i hi => ?_⟩
  obtain ⟨q, off, e, hc⟩ := h3 i (by rw [txts_length]; exact hi)
  exact ⟨q, off, e, by simpa [txts] using hc⟩

/-- A value is a store of the document's. -/
def IsRef (w : World) (v : Value) (S : Page.St) : Prop := ∃ a c, v = refStoV a S.l.length c S.k S.off ∧ Txts w (.slice a S.l.length c) S.l
theorem IsRef.keep {a b : World} {v : Value} {S : Page.St} (h : IsRef a v S) (hk : KeepS a b) : IsRef b v S := by
  obtain ⟨x, c, e, h⟩ := h
  exact ⟨x, c, e, h.keep hk⟩
theorem IsRef.ext {a b : World} {v : Value} {S : Page.St} (h : IsRef a v S) (hE : Ext a b) : IsRef b v S := h.keep (KeepS.ext hE)
set_option maxHeartbeats 2000000 in
theorem textRef8_any {S : Page.St} (v : Value) (many : Nat) (w : World) (h : IsRef w v S) (hS : S.Ok) (hm : many ≤ S.l.length) :
    Calls Tryz.prog 90 #[v, .int .i64 (many : Int)] w fun e w' => e = .returned (.string ⟨(Page.bytes (S.l.take many)).toArray⟩) ∧ Ext w w' := by
  obtain ⟨a, c, rfl, hT⟩ := h
  have HT := Lib.hid hT
  unfold refStoV
  obtain ⟨k0, hk0⟩ : ∃ k0 : Int, (S.k : Int) = k0 := ⟨_, rfl⟩
  obtain ⟨o0, ho0⟩ : ∃ o0, S.off = o0 := ⟨_, rfl⟩
  obtain ⟨n, hn⟩ : ∃ n, S.l.length = n := ⟨_, rfl⟩
  have HN := Lib.hid hn
  have HSM := Lib.hid hS
  have hcnt : n ≤ 65536 := by have := Page.count_le S.l; have := hS.max; omega
  rw [hk0, ho0, hn]
  rw [hn] at hm
  clear hk0 ho0 hn hS hT
  obtain ⟨w1, hw1⟩ : ∃ w1, w.alloc (.cells #[.slice a n c, .int .i64 k0, .bool o0] 34) = w1 := ⟨_, rfl⟩
  have hE1 : Ext w w1 := by rw [← hw1]; exact Ext.alloc _ _
  have hq1 : w1.heap[w.heap.size]? = some (.cells #[.slice a n c, .int .i64 k0, .bool o0] 34 (0, 0)) := by rw [← hw1]; exact heap_alloc_new _ _
  have HW1 := Lib.hid hw1
  clear hw1
  go_enter Tryz.func90, Tryz.ntmps90
  go_wp2_with fail
  rw [HW1.out]
  go_loopw [5, 6] (fun o i wr => ∃ k : Nat, k ≤ many ∧ i = .int .i64 k ∧ o = .string ⟨(Page.bytes (S.l.take k)).toArray⟩ ∧ Ext w1 wr) (fun _ i _ => many - (intOf i).toNat)
  case atStart => exact ⟨0, by omega, rfl, by simp [Page.bytes], Ext.refl _⟩
  case round =>
    obtain ⟨k, hk, rfl, rfl, hE⟩ := hrel
    by_cases hlt : k < many
    · obtain ⟨aa, cap, e, _, _, _, hcell⟩ := (HT.out.ext (hE1.trans hE)).open
      obtain ⟨b, off, rfl, hc⟩ := hcell k (by rw [HN.out]; omega)
      injection e with e1 e2 e3
      subst e1 e3
      have hqr := heap_ext hq1 hE
      have hf0 : wr.cell? ⟨w.heap.size, 0, none⟩ = some (.slice (some ⟨b, off, none⟩) n c) := cell_of_heap hqr 0
      have hkl : k < S.l.length := by rw [HN.out]; omega
      obtain ⟨x, hx⟩ : ∃ x, S.l[k] = x := ⟨_, rfl⟩
      rw [hx] at hc
      have HX := Lib.hid hx
      have hxl : x.length ≤ 70000 := by have := HSM.out.small x (by rw [← hx]; exact List.getElem_mem _); unfold Page.small at this; omega
      have hkn : k < n := by omega
      have htk := take_succ_getD S.l k hkl
      rw [hx] at htk
      have HTK := Lib.hid htk
      obtain ⟨B, hB⟩ : ∃ B, Page.bytes (S.l.take k) = B := ⟨_, rfl⟩
      rw [hB]
      have HBB := Lib.hid hB
      clear hcell hqr hx e2 htk hB
      go_wp2_with fail
      refine (frameRef_any x wr hxl).mono ?_
      rintro e w2 ⟨rfl, hE2⟩
      have happ := mk_append B (Page.frame x)
      have hbl : B.length ≤ 65536 := by rw [← HBB.out]; exact Nat.le_trans (Page.bytes_take_le _ _) HSM.out.max
      have hxf : (Page.frame x).length ≤ 70013 := by
        have := Pack.num_nine (n := x.length) (by omega)
        rw [Page.frame_length]
        omega
      have hsum : ¬ 9223372036854775807 < B.length + (Page.frame x).length := by omega
      clear hbl hxf
      go_wp2_with fail
      refine ⟨⟨k + 1, by omega, by simp, ?_, hE.trans hE2⟩, by simp [intOf]; omega⟩
      rw [HTK.out, Page.bytes_snoc, HBB.out]
    · obtain rfl : k = many := by omega
      go_wp2_with fail
      go_ret
      exact ⟨rfl, hE1.trans hE⟩

theorem newButR {w a b : World} (h : Ext w a) (hB : But w.heap.size a b) : Ext w b := Below.trans (B := w.heap.size) h ⟨hB.os, hB.tape, hB.output, hB.size, fun k hk => hB.block k (Nat.lt_of_lt_of_le hk h.size) (by omega)⟩
/-- Three stores fill a store's block. -/
theorem fill_ref {w : World} {q : Nat} {x0 x1 x2 y0 y1 y2 : Value} (h : w.heap[q]? = some (.cells #[x0, x1, x2] 34 (0, 0))) :
    (((w.setCell ⟨q, 0, none⟩ y0).setCell ⟨q, 1, none⟩ y1).setCell ⟨q, 2, none⟩ y2).heap[q]? = some (.cells #[y0, y1, y2] 34 (0, 0)) ∧ But q w (((w.setCell ⟨q, 0, none⟩ y0).setCell ⟨q, 1, none⟩ y1).setCell ⟨q, 2, none⟩ y2) :=
  ⟨heap_setCell (heap_setCell (heap_setCell h 0 y0) 1 y1) 2 y2, (((But.refl q w).setCell 0 none y0).setCell 1 none y1).setCell 2 none y2⟩

set_option maxHeartbeats 2000000 in
theorem newRef8_any (v : Value) (bs : List UInt8) (w : World) (hv : Bytes w v bs) (hl : bs.length ≤ 3000) :
    Calls Tryz.prog 12 #[v] w fun e w' => ∃ u, e = .returned u ∧ IsRef w' u (Page.fromBytes bs) ∧ Ext w w' := by
  obtain ⟨w1, hw1⟩ : ∃ w1, w.alloc (.cells #[.slice none 0 0, .int .i64 0, .bool false] 34) = w1 := ⟨_, rfl⟩
  have hE1 : Ext w w1 := by rw [← hw1]; exact Ext.alloc _ _
  have hq1 : w1.heap[w.heap.size]? = some (.cells #[.slice none 0 0, .int .i64 0, .bool false] 34 (0, 0)) := by rw [← hw1]; exact heap_alloc_new _ _
  have hstr := run_str (P := Tryz.prog) 22 9 5 Tryz.underlying22 Tryz.underlying5 Tryz.underlying9 (hv.below hE1)
  rw [← hw1] at hstr
  have HW1 := Lib.hid hw1
  obtain ⟨a, n, c, rfl⟩ := hv.isSlice
  have htk : bs.take 65536 = bs := List.take_of_length_le (by omega)
  have hnot : ¬ (65536 : Int) < (bs.length : Int) := by omega
  have HTK := Lib.hid htk
  clear htk hv hw1
  go_enter Tryz.func12, Tryz.ntmps12
  go_wp2_with fail
  rw [HW1.out]
  refine (scanRef_any bs w1 (by omega)).mono ?_
  rintro e w2 ⟨u, rfl, ho, hE2⟩
  obtain ⟨ua, un, uc, rfl⟩ := ownSlice ho
  have hl2 : un = (Page.scan bs).1.length := by
    obtain ⟨_, _, e, _⟩ := (Sl.ofOwn ho)
    injection e with _ e2
    rw [e2, txts_length]
  subst hl2
  have hT := Txts.own ho
  have HT := Lib.hid hT
  have hq2 := heap_ext hq1 hE2
  have k0 := cell_of_heap hq2 0
  have k1 := cell_of_heap hq2 1
  have k2 := cell_of_heap hq2 2
  have f2 := frozen_of_heap hq2 0
  have f21 := frozen_of_heap hq2 1
  have f22 := frozen_of_heap hq2 2
  clear hT ho hq1
  go_wp2_with fail
  obtain ⟨hf1, hf2⟩ := fill_ref (y0 := .slice ua (Page.scan bs).1.length uc) (y1 := .int .i64 ((Page.scan bs).1.length : Nat)) (y2 := .bool false) hq2
  have q0 := cell_of_heap hf1 0
  have q1 := cell_of_heap hf1 1
  have q2 := cell_of_heap hf1 2
  have hks := KeepS.but hf2 hq2 (by decide)
  have hEf : Ext w (((w2.setCell ⟨w.heap.size, 0, none⟩ (.slice ua (Page.scan bs).1.length uc)).setCell ⟨w.heap.size, 1, none⟩ (.int .i64 ((Page.scan bs).1.length : Nat))).setCell ⟨w.heap.size, 2, none⟩ (.bool false)) := newButR (hE1.trans hE2) hf2
  generalize ((w2.setCell ⟨w.heap.size, 0, none⟩ (.slice ua (Page.scan bs).1.length uc)).setCell ⟨w.heap.size, 1, none⟩ (.int .i64 ((Page.scan bs).1.length : Nat))).setCell ⟨w.heap.size, 2, none⟩ (.bool false) = w3 at *
  refine bodyPost_ret (v := refStoV ua (Page.scan bs).1.length uc ((Page.scan bs).1.length : Nat) false) (by simp [results, Tryz.results12, go_sem, q0, q1, q2, refStoV]) rfl ?_
  refine ⟨_, rfl, ⟨ua, uc, ?_, ?_⟩, hEf⟩
  · unfold Page.fromBytes
    rw [HTK.out]
  · unfold Page.fromBytes
    rw [HTK.out]
    exact HT.out.keep hks
end Go.Proofs.YtfgjhagfpafmoaaGreat
