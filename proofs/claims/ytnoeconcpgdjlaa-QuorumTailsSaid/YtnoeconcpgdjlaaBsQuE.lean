/-
  Merged: Layer 12: Committed.
-/
import Derived.Test.YtnoeconcpgdjlaaBsQuD
import Derived.Test.YtnoeconcpgdjlaaBsVec

namespace Go.Proofs.Ytnoeconcpgdjlaa
set_option linter.unusedSimpArgs false
set_option linter.unusedVariables false
set_option maxRecDepth 100000
open Go.RowKit Go.ChangeMaps
/- Layer 12: Committed. -/
namespace Quo
theorem many_perm {xs ys : List Int} (h : xs.Perm ys) (n : Int) : Vec.many xs n = Vec.many ys n := by
  unfold Vec.many
  exact h.countP_eq _
theorem committed_perm {p : Pr} (h : p.Ok) {xs : List Int} (hp : xs.Perm (p.c.seqs.map p.f)) : Vec.quorumNum xs (Term.majority p.c) = p.committed := by
  have hm := maj_in h.right
  have hl : xs.length = p.c.seqs.length := by rw [hp.length_eq, List.length_map]
  have h1 : Vec.IsQuorum xs (Term.majority p.c) (Vec.quorumNum xs (Term.majority p.c)) := Vec.quorum_is (fun x hx => by
    obtain ⟨y, _, rfl⟩ := List.mem_map.1 (hp.mem_iff.1 hx)
    exact h.f0 y) (by omega) (by rw [hl]; omega)
  have h2 := committed_is h
  refine Vec.quorum_unique h1 ⟨h2.1, ?_, fun n hn => ?_⟩
  · rw [many_perm hp]; exact h2.2.1
  · rw [many_perm hp]; exact h2.2.2 n hn
end Quo
def valOf12 (q : Value × Value) : Int := match q.2 with
  | .int _ k => k
  | _ => 0
theorem known12_vals (l : List Int) (f : Int → Int) : (known12 l f).map valOf12 = l.map f := by
  unfold known12
  rw [List.map_map]
  rfl
theorem quor12 {p : Quo.Pr} (h : p.Ok) {xs : List Int} (hp : xs.Perm (p.c.seqs.map p.f)) : quorOk (xs.map fun n => [n]) (Term.majority p.c : Nat) = true ∧ quor (xs.map fun n => [n]) (Term.majority p.c : Nat) = [p.committed] := by
  have hm := Quo.maj_in h.right
  have hl : xs.length = p.c.seqs.length := by rw [hp.length_eq, List.length_map]
  have hr : ∀ n ∈ xs, Vec.right [n] = true := fun n hn => by
    obtain ⟨y, _, rfl⟩ := List.mem_map.1 (hp.mem_iff.1 hn)
    have h0 := h.f0 y
    have h1 := h.fle y
    have h2 := h.max
    exact Vec.right_of (fun x hx => by rw [List.mem_singleton.1 hx]; omega) (by simp) (by simp)
  have hne : ∃ n ns, xs = n :: ns := by
    cases xs with
    | nil => simp at hl; omega
    | cons n ns => exact ⟨n, ns, rfl⟩
  obtain ⟨n, ns, hxs⟩ := hne
  have hf : firstRow (xs.map fun n => [n]) = [n] := by rw [hxs]; rfl
  constructor
  · unfold quorOk
    rw [hf]
    simp only [Bool.and_eq_true, decide_eq_true_eq, List.length_map, List.all_eq_true]
    refine ⟨by omega, fun r hr' => ?_⟩
    obtain ⟨k, hk, rfl⟩ := List.mem_map.1 hr'
    exact Vec.kind_of (hr k hk) (hr n (by rw [hxs]; simp)) rfl
  · unfold quor rowLen
    rw [hf]
    have hc : column (xs.map fun n => [n]) 0 = xs := by
      unfold column
      rw [List.map_map]
      have : ((fun r : List Int => r.getD 0 0) ∘ fun n : Int => [n]) = id := by funext n; rfl
      rw [this, List.map_id]
    show [Vec.quorumNum (column (xs.map fun n => [n]) 0) _] = _
    rw [hc, Quo.committed_perm h hp]
theorem OwnRR.notCells {w w' : World} {base r : Nat} {v : Value} {ls : List (List Int)} (h : OwnRR w base v ls) (hr : ∀ cs t fr, w.heap[r]? ≠ some (.cells cs t fr)) (hb : ∀ k, k < w.heap.size → k ≠ r → w'.heap[k]? = w.heap[k]?) : OwnRR w' base v ls := by
  obtain ⟨xs, h1, h2, h3⟩ := h
  have hk : ∀ {b size n : Nat} {e : TypeId} {u : Value} {ys : List Value}, w.ownsRow b e size u n ys → w'.ownsRow b e size u n ys := fun ho => rowOwn ho fun g hg => by
    obtain ⟨cur, hc⟩ := ownAt ho hg
    exact hb g (ho.lt g hg).2 (fun e => hr _ _ _ (e ▸ hc))
  exact ⟨xs, hk h1, h2, fun i h h' => hk (h3 i h h')⟩
theorem ownOne12 (w : World) (n : Int) : (w.alloc (.cells #[.int .i64 n] 3)).ownsRow w.heap.size 3 1 (.slice (some ⟨w.heap.size, 0, none⟩) 1 1) 1 [.int .i64 n] :=
  ⟨by simp, .inr ⟨_, 1, #[.int .i64 n], rfl, Nat.le_refl _, heap_alloc_new w _, Nat.le_refl _, by simp [maxLen], by simp, by simp⟩⟩
/-- The round over what is known. -/
structure Com12 (w : World) (kb r : Nat) (m left : List (Value × Value)) (vals done : List Int) (o : Value) (wr : World) : Prop where
  ring : RangeB wr kb r m left
  ext : Ext w wr
  new : w.heap.size ≤ r
  row : OwnRR wr w.heap.size o (done.map fun n => [n])
  perm : (done ++ left.map valOf12).Perm vals
set_option maxHeartbeats 16000000 in
theorem committed12_any {w : World} {B x : Nat} {S K : Nat → Prop} {p : Quo.Pr} (h : IsPr w B S K x p) :
    Calls Try.prog 22 #[.pointer (some ⟨x, 0, none⟩)] w fun e w' => e = .returned (.int .i64 p.committed) ∧ Ext w w' := by
  obtain ⟨kb, ev, es, h⟩ := h
  have H := Lib.hid h
  have c4 : w.cell? ⟨x, 4, none⟩ = some (.map (some kb)) := cell_of_heap h.at'.heap 4
  obtain ⟨w1, hrun, hR, hg, hs⟩ := h.at'.map.range Try.underlying98
  have hE1 : Ext w w1 := ⟨hg.os, hg.tape, hg.output, hg.size, fun k hk => hg.block k hk (by simp)⟩
  obtain ⟨r, hr⟩ : ∃ r, w.heap.size = r := ⟨_, rfl⟩
  have HS := Lib.hid (show Com12 w kb r (known12 p.c.seqs p.f) (known12 p.c.seqs p.f) (p.c.seqs.map p.f) [] (.slice none 0 0) w1 from ⟨by rw [← hr]; exact hR, hE1, by omega, OwnRR.nil _ _, by rw [known12_vals]; exact List.Perm.refl _⟩)
  have hmx := Quo.maj_in h.ok.right
  have hsq := (Term.right_ok h.ok.right).2.2.2.1
  have HLN := Lib.hid (show p.c.seqs.length ≤ 16 by omega)
  clear h hR hg hs hE1 hmx hsq
  go_enter Try.func22, Try.ntmps22
  go_wp2_with fail
  clear hrun c4 hr
  go_loopw [3] (fun o wr => ∃ (left : List (Value × Value)) (done : List Int), (∃ a n c, o = .slice a n c) ∧ Hid (Com12 w kb r (known12 p.c.seqs p.f) left (p.c.seqs.map p.f) done o wr)) (fun _ wr => leftCount wr kb r)
  case atStart => exact ⟨_, [], ⟨_, _, _, rfl⟩, HS⟩
  case round =>
    obtain ⟨left, done, ⟨oa, on, oc, rfl⟩, HI⟩ := hrel
    obtain ⟨wt, hwt⟩ : ∃ z, z = wr := ⟨_, rfl⟩
    subst hwt
    rcases HI.out.ring.next (P := Try.prog) 0 with ⟨rfl, hrun⟩ | ⟨l1, q, l2, w2, hl, hq, hrun, hR2, hg2, hs2, hent⟩
    · have hp := HI.out.perm
      simp only [List.map_nil, List.append_nil] at hp
      have hat := (H.out.ext HI.out.ext).at'
      have c2 : wt.cell? ⟨x, 2, none⟩ = some (.int .i64 (Term.majority p.c : Nat)) := cell_of_heap hat.heap 2
      obtain ⟨M, hM⟩ : ∃ M, Term.majority p.c = M := ⟨_, rfl⟩
      obtain ⟨q1, q2⟩ := quor12 H.out.ok hp
      have hlen : (done.map fun n => [n]).length ≤ 1000000 := by
        have h1 := hp.length_eq
        have h2 := HLN.out
        simp at h1 ⊢
        omega
      have HQ := Lib.hid (quorum_any (.slice oa on oc) (done.map fun n => [n]) (Term.majority p.c : Nat) wt HI.out.row.rows hlen)
      rw [q1, q2, orNone_true] at HQ
      rw [hM] at HQ c2
      clear hp hat hM q1 q2 hlen
      go_wp2_with fail
      refine HQ.out.mono ?_
      rintro e w3 ⟨u, rfl, hu, hE3⟩
      obtain ⟨a3, c3, rfl, h1, h2, h3, hc⟩ := hu
      obtain ⟨b3, o3, rfl, hx⟩ := hc 0 (by simp)
      simp [i64s] at hx
      have HE3 := Lib.hid (HI.out.ext.trans hE3)
      simp only [i64s, List.map_cons, List.map_nil, List.length_cons, List.length_nil, Nat.zero_add] at h1 ⊢
      clear hE3 h2 h3 hc
      go_wp2_with fail
      go_ret
      exact ⟨rfl, HE3.out⟩
    · obtain ⟨n, hn, rfl⟩ := List.mem_map.1 hq
      simp only at hrun hent
      have hri : ∀ cs t fr, wt.heap[r]? ≠ some (.cells cs t fr) := by
        obtain ⟨es', clock, since, seen, c0, e1, e2, _⟩ := HI.out.ring
        intro cs t fr e
        rw [e2] at e
        cases e
      have hbl : ∀ k, k < wt.heap.size → k ≠ r → w2.heap[k]? = wt.heap[k]? := fun k hk hne => hg2.block k hk (fun e => hne (by cases e; rfl))
      have hE2 : Ext w w2 := ⟨hg2.os.trans HI.out.ext.os, hg2.tape.trans HI.out.ext.tape, hg2.output.trans HI.out.ext.output, Nat.le_trans HI.out.ext.size hg2.size, fun k hk => (hbl k (Nat.lt_of_lt_of_le hk HI.out.ext.size) (by have := HI.out.new; omega)).trans (HI.out.ext.block k hk)⟩
      obtain ⟨xs, h1, h2, h3⟩ := HI.out.row.notCells hri hbl
      rw [List.length_map] at h1
      obtain ⟨fn, hfn⟩ : ∃ z, p.f n = z := ⟨_, rfl⟩
      have hlk := hR2.lt
      have HP := Lib.hid (show (done ++ [fn] ++ (l1 ++ l2).map valOf12).Perm (p.c.seqs.map p.f) by
        have h0 := HI.out.perm
        rw [hl, List.map_append, List.map_cons] at h0
        have e1 : valOf12 (Value.int .i64 n, Value.int .i64 (p.f n)) = fn := hfn
        rw [e1] at h0
        refine List.Perm.trans ?_ h0
        rw [List.map_append, List.append_assoc]
        exact List.Perm.append_left _ (show (fn :: (l1.map valOf12 ++ l2.map valOf12)).Perm _ from List.perm_middle.symm))
      have HM := Lib.hid (show leftCount wt kb r = (l1 ++ l2).length + 1 by rw [HI.out.ring.count, hl]; simp; omega)
      have hE3 : Ext w2 (w2.alloc (.cells #[.int .i64 fn] 3)) := Ext.alloc _ _
      have hE4 : Ext (w2.alloc (.cells #[.int .i64 fn] 3)) ((w2.alloc (.cells #[.int .i64 fn] 3)).alloc (.cells #[.slice (some ⟨w2.heap.size, 0, none⟩) 1 1] 22)) := Ext.alloc _ _
      have H1 := Lib.hid (rowExt (rowExt h1 hE3) hE4)
      have hsl := slOne (w2.alloc (.cells #[.int .i64 fn] 3)) (.slice (some ⟨w2.heap.size, 0, none⟩) 1 1) 22
      rw [World.size_alloc] at hsl
      have HSL := Lib.hid hsl
      have HONE := Lib.hid (oneSlice (x := .slice (some ⟨w2.heap.size, 0, none⟩) 1 1) ⟨_, _, _, rfl⟩)
      have hdn : done.length ≤ 16 := by
        have h0 := HI.out.perm.length_eq
        have h5 := HLN.out
        simp at h0
        omega
      have hk1 := Lib.hid (show done.length + [Value.slice (some ⟨w2.heap.size, 0, none⟩) 1 1].length ≤ maxLen by simp [maxLen]; omega)
      have hk2 := Lib.hid (show (done.length + [Value.slice (some ⟨w2.heap.size, 0, none⟩) 1 1].length) * 24 ≤ 140737488355328 by simp; omega)
      have hEw := Lib.hid ((hE2.trans hE3).trans hE4)
      have HX := Lib.hid (And.intro h2 (show ∀ i (h : i < xs.length) (h' : i < (done.map fun n => [n]).length), OwnI ((w2.alloc (.cells #[.int .i64 fn] 3)).alloc (.cells #[.slice (some ⟨w2.heap.size, 0, none⟩) 1 1] 22)) w.heap.size xs[i] (done.map fun n => [n])[i] from fun i h h' => ((h3 i h h').ext hE3).ext hE4))
      have HONX := Lib.hid (show OwnI ((w2.alloc (.cells #[.int .i64 fn] 3)).alloc (.cells #[.slice (some ⟨w2.heap.size, 0, none⟩) 1 1] 22)) w.heap.size (.slice (some ⟨w2.heap.size, 0, none⟩) 1 1) [fn] from (OwnI.ext (show OwnI (w2.alloc (.cells #[.int .i64 fn] 3)) w2.heap.size (.slice (some ⟨w2.heap.size, 0, none⟩) 1 1) [fn] from ownOne12 w2 fn) hE4).lower hE2.size)
      have HR4 := Lib.hid (hR2.blocks ((hE4.block kb (Nat.lt_of_lt_of_le hlk.1 hE3.size)).trans (hE3.block kb hlk.1)) ((hE4.block r (Nat.lt_of_lt_of_le hlk.2.1 hE3.size)).trans (hE3.block r hlk.2.1)))
      rw [hfn] at hrun hent
      clear hq hn hl hri hbl hE2 h1 h2 h3 hfn hlk hE3 hE4 hsl hdn hR2 hg2 hs2
      go_wp2_with (at_builtin; refine wpList_app rfl (.tmp 17) (.tmp 20) tRow rfl rfl rfl H1.out HSL.out HONE.out hk1.out hk2.out hEw.out.size ?_; intro v9 w9 hown9 hg9)
      obtain ⟨a9, n9, c9, rfl⟩ := ownSlice hown9
      have hne : ∀ (k : Nat), (∀ cs t fr, ((w2.alloc (.cells #[.int .i64 fn] 3)).alloc (.cells #[.slice (some ⟨w2.heap.size, 0, none⟩) 1 1] 22)).heap[k]? ≠ some (.cells cs t fr)) → k < ((w2.alloc (.cells #[.int .i64 fn] 3)).alloc (.cells #[.slice (some ⟨w2.heap.size, 0, none⟩) 1 1] 22)).heap.size → w9.heap[k]? = ((w2.alloc (.cells #[.int .i64 fn] 3)).alloc (.cells #[.slice (some ⟨w2.heap.size, 0, none⟩) 1 1] 22)).heap[k]? := fun k h1 h2 => hg9.block k h2 (fun e => by
        obtain ⟨cur, hc⟩ := ownAt H1.out e.symm
        exact h1 _ _ _ hc)
      have HR9 := Lib.hid (show RangeB w9 kb r (known12 p.c.seqs p.f) (l1 ++ l2) from by
        obtain ⟨es', clock, since, seen, c0, e1, e2, _⟩ := id HR4.out
        exact HR4.out.blocks (hne kb (fun cs t fr e => by rw [e1] at e; cases e) HR4.out.lt.1) (hne r (fun cs t fr e => by rw [e2] at e; cases e) HR4.out.lt.2.1))
      have HM9 := Lib.hid (HR9.out.count)
      have HC9 := Lib.hid (show Com12 w kb r (known12 p.c.seqs p.f) (l1 ++ l2) (p.c.seqs.map p.f) (done ++ [fn]) (.slice a9 n9 c9) w9 from ⟨HR9.out, Below.grown hEw.out hg9 hEw.out.size (fun k hk => (H1.out.lt k hk).1), HI.out.new, by
        rw [List.map_append]
        exact OwnRR.snoc (ls := done.map fun n => [n]) (v := .slice oa on oc) (xs := xs) (by rw [List.length_map]; exact H1.out) HX.out.1 HX.out.2 HONX.out hg9 (by rw [List.length_map]; exact hown9), HP.out⟩)
      clear hown9 hg9 hne hrun hent
      go_wp2_with fail
      go_roundw
      case rel => exact ⟨l1 ++ l2, done ++ [fn], ⟨_, _, _, rfl⟩, HC9⟩
      case measure => rw [HM.out, HM9.out]; omega
end Go.Proofs.Ytnoeconcpgdjlaa
