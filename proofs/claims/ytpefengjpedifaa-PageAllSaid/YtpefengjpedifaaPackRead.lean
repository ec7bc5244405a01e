/-
  Layer 2, the program: the reader, and what reads.
-/
import Derived.Test.YtpefengjpedifaaPackWrite
import Derived.Laws.OwnMore
import Derived.Laws.CopyOwn
import Derived.RegionTactic
import Derived.BigQuiet
import Derived.Deep.QuietTactic
namespace Go.Proofs.Ytpefengjpedifaa
open Go.RowKit

/-- A reading stays where a block of other things is written. -/
theorem Sl.off {w w' : World} {p : Nat} {cs : Array Value} {T : TypeId} {fr : Nat × Nat} {v : Value} {xs : List Value} (h : Sl w v xs) (hp : w.heap[p]? = some (.cells cs T fr)) (hx : ∀ x ∈ xs, x ∉ cs.toList) (hb : But p w w') : Sl w' v xs := by
  obtain ⟨a, cap, rfl, h1, h2, h4, h3⟩ := h
  refine ⟨a, cap, rfl, h1, h2, h4, fun i hi => ?_⟩
  obtain ⟨b, off, e, hc⟩ := h3 i hi
  refine ⟨b, off, e, ?_⟩
  have hne : b ≠ p := by
    rintro rfl
    rw [cell_of_heap hp] at hc
    have := Array.mem_of_getElem? hc
    exact hx _ (List.getElem_mem hi) (by simpa using this)
  rw [World.cell?_of_block (w := w) (hb.block b (World.block_lt_of_cell? w _ hc) hne)]
  exact hc
theorem Bytes.off {w w' : World} {p : Nat} {cs : Array Value} {T : TypeId} {fr : Nat × Nat} {v : Value} {l : List UInt8} (h : Bytes w v l) (hp : w.heap[p]? = some (.cells cs T fr)) (hx : ∀ n, Value.int .u8 n ∉ cs.toList) (hb : But p w w') : Bytes w' v l :=
  Sl.off h hp (fun x hxx => by
    obtain ⟨y, _, rfl⟩ := List.mem_map.1 hxx
    exact hx _) hb

/-- What this names lies ahead of block p. -/
def Low (a : Option Addr) (p : Nat) : Prop := ∀ d, a = some d → d.block < p
theorem Low.none (p : Nat) : Low none p := fun _ e => by cases e
theorem Low.sub {a : Option Addr} {p : Nat} (h : Low a p) (b : Prop) [Decidable b] (k : Nat) : Low (if b then a else a.map (·.add k)) p := by
  intro d e
  split at e
  · exact h d e
  · cases a with
    | none => cases e
    | some x =>
      simp only [Option.map_some, Option.some.injEq] at e
      subst e
      have e2 : (x.add k).block = x.block := by unfold Addr.add; split <;> rfl
      rw [e2]
      exact h x rfl
/-- Block p is a reader in this state; what it has still to read lies ahead of it. -/
def RD (w : World) (p : Nat) (s : Pack.St) : Prop :=
  ∃ (a : Option Addr) (n c : Nat), w.heap[p]? = some (.cells #[.slice a n c, .int .i64 s.err] 166 (0, 0)) ∧ Bytes w (.slice a n c) s.left ∧ Low a p
theorem RD.lt {w : World} {p : Nat} {s : Pack.St} (h : RD w p s) : p < w.heap.size := by
  obtain ⟨a, n, c, h1, _, _⟩ := h
  exact (Array.getElem?_eq_some_iff.1 h1).1
theorem RD.ext {w w' : World} {p : Nat} {s : Pack.St} (h : RD w p s) (hb : Ext w w') : RD w' p s := by
  have hlt := h.lt
  obtain ⟨a, n, c, h1, h2, h3⟩ := h
  exact ⟨a, n, c, by rw [hb.block p hlt]; exact h1, h2.below hb, h3⟩
/-- A reader stays as long as its block, and what lies ahead of it, stays. -/
theorem RD.keep {w w' : World} {p : Nat} {s : Pack.St} (h : RD w p s) (hb : ∀ k, k ≤ p → w'.heap[k]? = w.heap[k]?) : RD w' p s := by
  obtain ⟨a, n, c, h1, h2, h3⟩ := h
  refine ⟨a, n, c, (hb p (Nat.le_refl _)).trans h1, ?_, h3⟩
  obtain ⟨a', cap, e, q1, q2, q4, q3⟩ := h2
  refine ⟨a', cap, e, q1, q2, q4, fun i hi => ?_⟩
  obtain ⟨b, off, e2, hc⟩ := q3 i hi
  refine ⟨b, off, e2, ?_⟩
  injection e with e3 _ _
  subst e3
  have := h3 _ e2
  rw [World.cell?_of_block (w := w) (hb b (Nat.le_of_lt this))]
  exact hc
theorem no_u8 {a : Option Addr} {n c : Nat} {e : Int} : ∀ m, Value.int .u8 m ∉ (#[Value.slice a n c, .int .i64 e] : Array Value).toList := by
  intro m h
  simp at h
/-- A reading of bytes lies beside a reader. -/
theorem RD.bytes {w w' : World} {p : Nat} {s : Pack.St} {v : Value} {l : List UInt8} (h : RD w p s) (hv : Bytes w v l) (hb : But p w w') : Bytes w' v l := by
  obtain ⟨a, n, c, h1, _, _⟩ := h
  exact hv.off h1 no_u8 hb
theorem RD.other {w w' : World} {p q : Nat} {s t : Pack.St} (h : RD w p s) (hq : RD w q t) (hne : q ≠ p) (hb : But p w w') : RD w' q t := by
  have hlt := hq.lt
  have h' := h
  obtain ⟨a, n, c, h1, h2, h3⟩ := hq
  exact ⟨a, n, c, by rw [hb.block q hlt hne]; exact h1, h'.bytes h2 hb, h3⟩

/-- make([]T, n), copied into whole. -/
theorem wpList_mkfull {P : Program} {w : World} {ops : Array Oper} {rest : List Oper} {o : Oper} {a : Act} {Q : Exit → Act → World → Prop} (hgd : o.guard = none) (l c : Operand) {t e : TypeId} {z : Value} {bytes : Nat} (E : ElemOf P t e z bytes)
    (ho : o.op = Op.makeSlice t l c) (base : Nat) {kl kc : IntKind} (n : Nat) (hl : a.eval l = .int kl n) (hc : a.eval c = .int kc n) (hby : bytes * n ≤ 281474976710656) (hn : n ≤ maxLen) (hb : base ≤ w.heap.size)
    (h : ∀ w', w'.ownsRow base e 1 (.slice (some ⟨w.heap.size, 0, none⟩) n n) n (madeCells z.cells (n * 1)).toList → w.grownBy w' none → wpList P ops Q rest (a.put o.dst (.slice (some ⟨w.heap.size, 0, none⟩) n n)) w') : wpList P ops Q (o :: rest) a w := by
  obtain ⟨i, hi, hz, h2, h3⟩ := info_parts E.info
  refine wpList_plain hgd fun K hK => ?_
  obtain ⟨w', hr, h4, h5⟩ := run_make_full (P := P) w base t e i z 1 E.slice hi hz h2 kl kc n (by rw [h3]; exact hby) hn hb
  unfold Oper.wp execOp
  simp only [ho, hl, hc, Sem.run_bind, hr, Result.andThen_ok, Sem.run_pure]
  exact hK _ _ (h w' h4 h5)
theorem wpList_copyall {P : Program} {w : World} {ops : Array Oper} {rest : List Oper} {o : Oper} {a : Act} {Q : Exit → Act → World → Prop} (hgd : o.guard = none) (d s : Operand) {t e : TypeId} {z : Value} {bytes : Nat} (E : ElemOf P t e z bytes)
    (ho : o.op = .call { callee := .builtin .copy, args := #[d, s], argTypes := #[t, t] }) {base g : Nat} {u : Value} {n : Nat} {xs ys : List Value} (hd : a.eval d = .slice (some ⟨g, 0, none⟩) n n) (hs : a.eval s = u)
    (hown : w.ownsRow base e 1 (.slice (some ⟨g, 0, none⟩) n n) n xs) (hu : Sl w u ys) (hn : ys.length = n) (h1 : ∀ y ∈ ys, y.oneCell' = true)
    (h : ∀ w', Sl w' (.slice (some ⟨g, 0, none⟩) n n) ys → Below base w w' → wpList P ops Q rest (a.put o.dst (goInt n)) w') : wpList P ops Q (o :: rest) a w := by
  obtain ⟨i, hi, hz, h2, h3⟩ := info_parts E.info
  have hl : xs.length = n := by simpa using hown.1
  obtain ⟨aa, cap, rfl, q1, q2, q4, q3⟩ := hu
  obtain ⟨_, hh | ⟨g', cap', cur, e1, hg, hh, hnn, hm, hsz, ht⟩⟩ := hown
  · exact absurd hh.1 (by simp)
  · injection e1 with e1 _ e3
    injection e1 with e1
    injection e1 with e1 _
    subst e1 e3
    have hcl : cur.toList = xs := by
      rw [← ht, List.take_of_length_le]
      rw [Array.length_toList]; omega
    have hcur : cur = xs.toArray := by rw [← hcl]
    subst hcur
    refine wpList_copy_splice hgd d s t t ho e E.slice (by rw [hi]; simp [h2]) (some ⟨g, 0, none⟩) aa n n ys.length cap hd hs g 0 xs e hh ys (by rw [hn]; exact (Nat.min_self _).symm) ?_ (by omega) h1 base w (Below.refl _ _) hg ?_
    · intro hpos
      obtain ⟨b, off, e5, _⟩ := q3 0 hpos
      refine ⟨rfl, ⟨b, off, none⟩, e5, fun j v hj => ?_⟩
      obtain ⟨hj1, rfl⟩ := List.getElem?_eq_some_iff.1 hj
      obtain ⟨b', off', e', hc'⟩ := q3 j hj1
      rw [e5] at e'
      injection e' with e'; injection e' with e6 e7
      subst e6 e7
      rw [Addr.add_lit]; exact hc'
    · intro w' hg' hb'
      have e8 : splice xs 0 ys = ys := by simp [splice]; omega
      rw [hn]
      refine h w' ⟨_, n, by rw [hn], by omega, hm, fun e => by simp at e, fun j hj => ⟨g, 0, rfl, ?_⟩⟩ hb'
      have h9 := hg'.out
      rw [e8] at h9
      rw [cell_of_heap h9]
      simp [hj]

theorem build_reader (w : World) (a : Option Addr) (n c : Nat) : (Instr.build 166 #[(0, .slice a n c)]).run Try.prog w = .ok (.agg #[.slice a n c, .int .i64 0]) w := by kernel_rfl
theorem box_reader (w : World) (a : Option Addr) (n c : Nat) : (Instr.box 166 (.agg #[.slice a n c, .int .i64 0])).run Try.prog w = .ok (.pointer (some ⟨w.heap.size, 0, none⟩)) (w.alloc (.cells #[.slice a n c, .int .i64 0] 166)) := by kernel_rfl

set_option maxRecDepth 100000 in
set_option maxHeartbeats 1000000 in
theorem newReader_any (v : Value) (l : List UInt8) (w : World) (hv : Bytes w v l) (hl : l.length ≤ 140737488355328) :
    Calls Try.prog 81 #[v] w fun e w' => ∃ p, e = .returned (.pointer (some ⟨p, 0, none⟩)) ∧ w.heap.size ≤ p ∧ RD w' p ⟨l, 0⟩ ∧ Ext w w' := by
  have h1 := build_reader
  have h2 := box_reader
  have HV := Lib.hid hv
  obtain ⟨a, cap, rfl, hcap, hmax, hn, hc⟩ := hv.open
  clear hc hv
  have hu := u8s_one l
  go_enter Try.func81, Try.ntmps81
  go_wp2_with (first | (at_make; refine wpList_mkfull rfl _ _ tB8 rfl w.heap.size l.length rfl rfl ?k1 ?k2 ?k3 ?_; rotate_right; intro w3 hown3 hg3; have hb3 : Ext w w3 := (Below.refl _ w).grown hg3 (Nat.le_refl _) (fun k hk => by cases hk)) | (refine wpList_copyall rfl (.tmp 7) (.tmp 8) tB8 rfl (ys := u8s l) rfl rfl hown3 (HV.out.below hb3) (u8s_length l) hu ?_; intro w4 hs4 hb4))
  case k1 => omega
  case k2 => unfold maxLen; omega
  case k3 => omega
  go_ret
  have hlow : w.heap.size < w4.heap.size := by
    obtain ⟨_, h | ⟨g', cap', cur, e1, _, hh, _⟩⟩ := hown3
    · exact absurd h.1 (by simp)
    · injection e1 with e1 _ _
      injection e1 with e1
      injection e1 with e1 _
      subst e1
      have := (Array.getElem?_eq_some_iff.1 hh).1
      have := hb4.size
      omega
  refine ⟨w4.heap.size, rfl, ?_, ⟨_, _, _, heap_alloc_new w4 _, Sl.below hs4 (Ext.alloc _ _), fun d e => by injection e with e; subst e; exact hlow⟩, Below.alloc (Below.trans (B := w.heap.size) hb3 hb4) ?_ _⟩
  · exact Nat.le_trans hb3.size hb4.size
  · exact Nat.le_trans hb3.size hb4.size
set_option maxRecDepth 100000 in
set_option maxHeartbeats 1000000 in
theorem left_any (p : Nat) (s : Pack.St) (w : World) (h : RD w p s) : Calls Try.prog 83 #[.pointer (some ⟨p, 0, none⟩)] w fun e w' => e = .returned (.int .i64 (s.left.length : Nat)) ∧ w = w' := by
  obtain ⟨a, n, c, h1, h2, h3⟩ := h
  have c0 := cell_of_heap h1 0
  have hn := h2.len.1
  simp at c0
  have HN := Lib.hid hn
  clear hn h1 h2
  go_enter Try.func83, Try.ntmps83
  go_wp2
  go_ret
  exact ⟨by rw [HN.out]; rfl, rfl⟩
set_option maxRecDepth 100000 in
set_option maxHeartbeats 1000000 in
theorem err_any (p : Nat) (s : Pack.St) (w : World) (h : RD w p s) : Calls Try.prog 84 #[.pointer (some ⟨p, 0, none⟩)] w fun e w' => e = .returned (.int .i64 s.err) ∧ w = w' := by
  obtain ⟨a, n, c, h1, h2, h3⟩ := h
  have c1 := cell_of_heap h1 1
  simp at c1
  clear h1 h2
  go_enter Try.func84, Try.ntmps84
  go_wp2
  go_ret
  exact ⟨rfl, rfl⟩
set_option maxRecDepth 100000 in
set_option maxHeartbeats 1000000 in
theorem end_any (p : Nat) (s : Pack.St) (w : World) (h : RD w p s) : Calls Try.prog 99 #[.pointer (some ⟨p, 0, none⟩)] w fun e w' => e = .returned (.int .i64 s.done) ∧ w = w' := by
  obtain ⟨a, n, c, h1, h2, h3⟩ := h
  have c0 := cell_of_heap h1 0
  have c1 := cell_of_heap h1 1
  have hn := h2.len.1
  simp at c0 c1
  clear h1 h2
  by_cases h0 : s.left.length = 0
  · have hz : ¬ (0 : Int) < (n : Int) := by omega
    have e : s.done = s.err := by unfold Pack.St.done; rw [if_pos (List.eq_nil_of_length_eq_zero h0)]
    rw [e]
    clear e h0 hn
    go_enter Try.func99, Try.ntmps99
    go_wp2
    go_ret
    exact ⟨rfl, rfl⟩
  · have hz : (0 : Int) < (n : Int) := by omega
    have e : s.done = 22 := by unfold Pack.St.done; rw [if_neg (fun h => h0 (by rw [h]; rfl))]
    rw [e]
    clear e h0 hn
    go_enter Try.func99, Try.ntmps99
    go_wp2
    go_ret
    exact ⟨rfl, rfl⟩

/-- A reader's call: what it leaves. -/
def Turns (p : Nat) (w : World) (v : Value) (s : Pack.St) (e : Ending) (w' : World) : Prop := e = .returned v ∧ But p w w' ∧ RD w' p s
theorem bytes_none (w : World) : Bytes w (.slice none 0 0) [] := ⟨none, 0, rfl, Nat.le_refl _, by simp [maxLen], fun _ => rfl, fun i hi => absurd hi (by simp [u8s])⟩
theorem RD.store {w' : World} {p : Nat} {a : Option Addr} {n c : Nat} {s : Pack.St} (h : w'.heap[p]? = some (.cells #[.slice a n c, .int .i64 s.err] 166 (0, 0))) (hv : Bytes w' (.slice a n c) s.left) (hl : Low a p) : RD w' p s := ⟨a, n, c, h, hv, hl⟩

set_option maxRecDepth 100000 in
set_option maxHeartbeats 1000000 in
theorem fail_any (p : Nat) (s : Pack.St) (x : Int) (w : World) (h : RD w p s) : Calls Try.prog 97 #[.pointer (some ⟨p, 0, none⟩), .int .i64 x] w (Turns p w (.tuple #[]) (s.fail x)) := by
  obtain ⟨a, n, c, h1, h2, h3⟩ := h
  have c1 := cell_of_heap h1 1
  have c0 := cell_of_heap h1 0
  have c2 := cell_of_heap (heap_setCell h1 1 (.int .i64 x)) 0
  have f0 := frozen_of_heap h1 0
  have f1 := frozen_of_heap h1 1
  have g1 := heap_setCell h1 0 (.slice none 0 0)
  have g2 := heap_setCell (heap_setCell h1 1 (.int .i64 x)) 0 (.slice none 0 0)
  have f2 := frozen_of_heap (heap_setCell h1 1 (.int .i64 x)) 0
  simp at c0 c1 c2 g1 g2
  by_cases h0 : s.err = 0
  · have hz : (s.err == 0) = true := by simp [h0]
    have e : s.fail x = ⟨[], x⟩ := by unfold Pack.St.fail; rw [if_pos h0]
    rw [e]
    have G2 := Lib.hid g2
    clear e h0 g1 g2 h1 h2
    go_enter Try.func97, Try.ntmps97
    go_wp2
    go_end0
    exact ⟨rfl, ((But.refl p w).setCell 1 none _).setCell 0 none _, RD.store G2.out (bytes_none _) (Low.none _)⟩
  · have hz : (s.err == 0) = false := by simp [h0]
    have e : s.fail x = ⟨[], s.err⟩ := by unfold Pack.St.fail; rw [if_neg h0]
    rw [e]
    have G1 := Lib.hid g1
    clear e h0 g1 g2 h1 h2
    go_enter Try.func97, Try.ntmps97
    go_wp2
    go_end0
    exact ⟨rfl, (But.refl p w).setCell 0 none _, RD.store G1.out (bytes_none _) (Low.none _)⟩
end Go.Proofs.Ytpefengjpedifaa
