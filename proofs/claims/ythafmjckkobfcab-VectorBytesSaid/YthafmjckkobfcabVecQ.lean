/-
  Layer 3, the program: what so many have.
-/
import Derived.Test.YthafmjckkobfcabVecN
import Derived.Test.YthafmjckkobfcabVecQm
import Derived.Test.YthafmjckkobfcabSortI
import Derived.Sort.OwnSortedInts
import Derived.Shelf.SortM.SortNone
import Derived.Maps.AppendAt
namespace Go.Proofs.Ythafmjckkobfcab
open Go.RowKit Go.Shelf Go.Sort
attribute [local go_sem] Oper.semAt_some

def firstRow : List (List Int) → List Int
  | [] => []
  | r :: _ => r
def rowLen (ls : List (List Int)) : Nat := (firstRow ls).length
/-- What so many have, shard by shard. -/
def quor (ls : List (List Int)) (need : Int) : List Int := (List.range (rowLen ls)).map fun k => Vec.quorumNum (column ls k) need
/-- Are they all of one kind, and so many? -/
def quorOk (ls : List (List Int)) (need : Int) : Bool := decide (1 ≤ need ∧ need ≤ ls.length) && ls.all fun r => Vec.kind r (firstRow ls)
theorem quorOk_need {ls : List (List Int)} {need : Int} (h : ¬ (1 ≤ need ∧ need ≤ ls.length)) : quorOk ls need = false := by
  unfold quorOk
  rw [decide_eq_false h]
  rfl
theorem quorOk_kind {ls : List (List Int)} {need : Int} (k : Nat) (hk : k < ls.length) (h : Vec.kind ls[k] (firstRow ls) = false) : quorOk ls need = false := by
  unfold quorOk
  have : (ls.all fun r => Vec.kind r (firstRow ls)) = false := by
    rw [List.all_eq_false]
    exact ⟨ls[k], List.getElem_mem _, by rw [h]; simp⟩
  rw [this, Bool.and_false]
theorem quorOk_all {ls : List (List Int)} {need : Int} (h1 : 1 ≤ need ∧ need ≤ ls.length) (h : (ls.take ls.length).all (fun r => Vec.kind r (firstRow ls)) = true) : quorOk ls need = true := by
  unfold quorOk
  rw [List.take_length] at h
  rw [h, decide_eq_true h1]
  rfl
theorem headD_eq {ls : List (List Int)} (h : 0 < ls.length) : firstRow ls = ls[0] := by
  cases ls with
  | nil => simp at h
  | cons a l => rfl

/-- What is there when the first k numbers of these are there. -/
def filled (q : List Int) (k : Nat) : List Int := q.take k ++ List.replicate (q.length - k) 0
theorem filled_zero (q : List Int) : filled q 0 = List.replicate q.length 0 := by simp [filled]
theorem filled_all (q : List Int) : filled q q.length = q := by simp [filled]
theorem filled_succ (q : List Int) (k : Nat) (hk : k < q.length) : filled q (k + 1) = (filled q k).set k q[k] := by
  have hz : (q.take k).length = k := by simp; omega
  unfold filled
  rw [List.set_append_right _ _ (by omega), hz, Nat.sub_self, take_succ_getD q k hk]
  rw [show q.length - k = (q.length - (k + 1)) + 1 from by omega, List.replicate_succ, List.set_cons_zero, List.append_assoc]
  rfl
theorem filled_len (q : List Int) (k : Nat) (hk : k ≤ q.length) : (filled q k).length = q.length := by simp [filled]; omega
theorem i64s_set2 (l : List Int) (k : Nat) (x : Int) : i64s (l.set k x) = (i64s l).set k (.int .i64 x) := by simp [i64s, List.map_set]
@[simp] theorem quor_length (ls : List (List Int)) (need : Int) : (quor ls need).length = rowLen ls := by simp [quor]
theorem quor_get (ls : List (List Int)) (need : Int) (k : Nat) (hk : k < (quor ls need).length) : (quor ls need)[k] = Vec.quorumNum (column ls k) need := by simp [quor]

/-- The blocks for the rounds' deferred calls, of all loops that are over. -/
def marks (Ds : List Nat) : List Deferred := Ds.map fun D => { target := .collected D, args := #[] }
theorem leaves_marks {F : Fence} {n n₀ : Nat} {P : Program} {fn : Func} {tmps : Array Value} {R : Ending → World → Prop} (Pw : World → Prop)
    (hP : ∀ (W : World) (D : Nat), Pw W → n₀ ≤ D → W.heap[D]? = some (.deferred (some [])) → Pw (W.putObj D (.deferred none)))
    (hend : ∀ W, Pw W → LeavesIn F n P fn tmps R [] .returning W) : ∀ (Ds : List Nat) (W : World), Pw W → Ds.Nodup → (∀ D ∈ Ds, n₀ ≤ D ∧ W.heap[D]? = some (.deferred (some []))) → LeavesInM F n P fn tmps R (marks Ds) .returning W := by
  intro Ds
  induction Ds with
  | nil => intro W hw _ _; exact hend W hw
  | cons D Ds ih =>
    intro W hw hnd hm
    obtain ⟨h1, h2⟩ := hm D (by simp)
    rw [List.nodup_cons] at hnd
    refine ⟨by simp, .inl ⟨D, _, rfl, run_takeDeferred h2, ih _ (hP W D hw h1 h2) hnd.2 fun D' hD' => ?_⟩⟩
    obtain ⟨h3, h4⟩ := hm D' (by simp [hD'])
    exact ⟨h3, (World.putObj_heap_other (by rintro rfl; exact hnd.1 hD')).trans h4⟩

/-- Between two shards. -/
structure QInv (w : World) (q : List Int) (g h B nx cap1 L k : Nat) (Ds : List Nat) (m : Nat) (W : World) : Prop where
  ext : Below w.heap.size w W
  out : W.ownsRow w.heap.size 3 1 (.slice (some ⟨g, 0, none⟩) nx cap1) nx (i64s (filled q k))
  box : Boxed W B 32 (.slice (some ⟨h, 0, none⟩) m L)
  col : ∃ xs, W.ownsRow h 3 1 (.slice (some ⟨h, 0, none⟩) m L) m xs
  mks : ∀ D ∈ Ds, w.heap.size ≤ D ∧ D < W.heap.size ∧ W.heap[D]? = some (.deferred (some []))
theorem Ext.grown {w w' : World} (h : Ext w w') : w.grownBy w' none := ⟨h.os, h.tape, h.output, h.size, fun k hk _ => h.block k hk⟩
theorem ownRow_own {β : Type} {base size n : Nat} {e : TypeId} {v : Value} {xs : List Value} : Go.Own (fun (_ : β) W => W.ownsRow base e size v n xs) := by
  rintro s X Y row hr hg hrow
  refine hr.kept hg ?_
  rcases hr.2 with ⟨rfl, _⟩ | ⟨g, cap, cur, rfl, _, hgb, _⟩
  · exact .inl rfl
  · refine .inr fun e' => ?_
    obtain ⟨o, ho, hc⟩ := hrow g (by simpa [Value.ownBlock] using e'.symm)
    rw [hgb] at ho; cases ho; cases hc
theorem box_own {β : Type} {B : Nat} {t : TypeId} {f : β → Value} : Go.Own (fun (s : β) W => Boxed W B t (f s)) := by
  rintro s X Y row hv hg hrow
  refine hv.kept hg (fun e' => ?_)
  obtain ⟨o, ho, hc⟩ := hrow B e'.symm
  rw [show X.heap[B]? = _ from hv] at ho; cases ho; cases hc
theorem rows_own {β : Type} {base size : Nat} {e : TypeId} {v : β → Value} {n : β → Nat} {xs : β → List Value} : Go.Own (fun (s : β) W => W.ownsRow base e size (v s) (n s) (xs s)) := by
  rintro s X Y row hr hg hrow
  refine hr.kept hg ?_
  rcases hr.2 with ⟨h0, _⟩ | ⟨g, cap, cur, h0, _, hgb, _⟩
  · rw [h0]; exact .inl rfl
  · rw [h0]
    refine .inr fun e' => ?_
    obtain ⟨o, ho, hc⟩ := hrow g (by simpa [Value.ownBlock] using e'.symm)
    rw [hgb] at ho; cases ho; cases hc
theorem marks_own {β : Type} {B n₀ : Nat} {Ds : List Nat} (h : ∀ D ∈ Ds, D < B) : OwnFrom B (fun (_ : β) W => ∀ D ∈ Ds, n₀ ≤ D ∧ D < W.heap.size ∧ W.heap[D]? = some (.deferred (some []))) := by
  rintro s X Y row hm hg hrow D hD
  obtain ⟨h1, h2, h3⟩ := hm D hD
  exact ⟨h1, Nat.lt_of_lt_of_le h2 hg.size, (hg.block D h2 (fun e => by have := (hrow D e.symm).1; have := h D hD; omega)).trans h3⟩
theorem row_cells {w : World} {base e g n cap : Nat} {xs : List Value} (h : w.ownsRow base e 1 (.slice (some ⟨g, 0, none⟩) n cap) n xs) : ∃ cur, w.heap[g]? = some (.cells cur e (0, 0)) ∧ n ≤ cap ∧ cap ≤ maxLen ∧ cur.size = cap ∧ cur.toList.take n = xs := by
  obtain ⟨_, h0 | ⟨g', cap', cur, h1, h2, h3, h4, h5, h6, h7⟩⟩ := h
  · simp at h0
  · injection h1 with h1 _ h8
    injection h1 with h1
    injection h1 with h1
    subst h1 h8
    exact ⟨cur, h3, h4, h5, by simpa using h6, by simpa using h7⟩
theorem row_short {w : World} {base e g n cap : Nat} {xs : List Value} (h : w.ownsRow base e 1 (.slice (some ⟨g, 0, none⟩) n cap) n xs) : w.ownsRow base e 1 (.slice (some ⟨g, 0, none⟩) 0 cap) 0 [] := by
  obtain ⟨_, h0 | ⟨g', cap', cur, h1, h2, h3, _, h5, h6, _⟩⟩ := h
  · simp at h0
  · injection h1 with h1 _ h7
    injection h1 with h1
    injection h1 with h1
    subst h1 h7
    exact ⟨rfl, .inr ⟨g, cap, cur, rfl, h2, h3, Nat.zero_le _, h5, h6, rfl⟩⟩

set_option maxRecDepth 100000 in
set_option maxHeartbeats 4000000 in
theorem quorum_any (v : Value) (ls : List (List Int)) (need : Int) (w : World) (hv : IRows w v ls) (hlen : ls.length ≤ 1000000) :
    Calls Try.prog 38 #[v, .int .i64 need] w (GivesInts w (orNone (quorOk ls need) (quor ls need)) (quorOk ls need)) := by
  have HL := Lib.hid hv
  obtain ⟨a, cap, rfl, hcap, hmax, _⟩ := hv.open
  unfold maxLen at hmax
  clear hv
  refine (callsIn_wide (n := 3)).1 ?_
  by_cases h1 : need < 1
  · rw [quorOk_need (by omega)]
    refine callsIn_of_wp_marks Try.func38 rfl trivial ?_ rfl
    refine wpIn_wide.2 ?_
    simp only [Try.ntmps38, List.size_toArray, List.length_cons, List.length_nil, Nat.reduceAdd, Nat.reduceSub, Array.replicate_succ, Array.replicate_zero, List.push_toArray, List.append_toArray, List.nil_append, List.cons_append]
    go_wp2
    exact ⟨_, results_tmp2 rfl _ _ _, _, rfl, ints_none _, Ext.refl _⟩
  · by_cases h2 : (ls.length : Int) < need
    · rw [quorOk_need (by omega)]
      refine callsIn_of_wp_marks Try.func38 rfl trivial ?_ rfl
      refine wpIn_wide.2 ?_
      simp only [Try.ntmps38, List.size_toArray, List.length_cons, List.length_nil, Nat.reduceAdd, Nat.reduceSub, Array.replicate_succ, Array.replicate_zero, List.push_toArray, List.append_toArray, List.nil_append, List.cons_append]
      go_wp2
      exact ⟨_, results_tmp2 rfl _ _ _, _, rfl, ints_none _, Ext.refl _⟩
    · obtain ⟨nd, rfl⟩ : ∃ nd : Nat, need = (nd : Int) := ⟨need.toNat, by omega⟩
      refine callsIn_of_wp_marks Try.func38 rfl trivial ?_ rfl
      refine wpIn_wide.2 ?_
      simp only [Try.ntmps38, List.size_toArray, List.length_cons, List.length_nil, Nat.reduceAdd, Nat.reduceSub, Array.replicate_succ, Array.replicate_zero, List.push_toArray, List.append_toArray, List.nil_append, List.cons_append]
      go_wp2_with fail
      go_loop [7, 22] (fun _ i => ∃ k : Nat, k ≤ ls.length ∧ i = .int .i64 k ∧ Hid ((ls.take k).all (fun r => Vec.kind r (firstRow ls)) = true)) (fun _ i => ls.length - (intOf i).toNat)
      case atStart => exact ⟨0, by omega, rfl, by simp [Hid]⟩
      case round =>
        obtain ⟨k, hk, rfl, hr⟩ := hrel
        by_cases hlt : k < ls.length
        · obtain ⟨a2, cap2, e2, _, _, hrow⟩ := HL.out.open
          obtain ⟨b, off, x, rfl, hcx, hix⟩ := hrow k hlt
          obtain ⟨b', off', x0, e6, hcx0, hix0⟩ := hrow 0 (by omega)
          injection e2 with e3 e4 e5
          subst e3
          injection e6 with e6
          injection e6 with e7 e8
          subst e7 e8
          rw [Nat.add_zero] at hcx0
          have hk0 := headD_eq (ls := ls) (by omega)
          obtain ⟨ax, nx, cx, rfl⟩ := hix.isSlice
          obtain ⟨ax0, nx0, cx0, rfl⟩ := hix0.isSlice
          have hcall := oneKind_any _ _ _ _ _ hix hix0
          rw [← hk0] at hcall
          have HC := Lib.hid hcall
          clear hcall hrow e4 e5 hk0 hix hix0
          cases hb : Vec.kind ls[k] (firstRow ls) with
          | true =>
            have HB := Lib.hid hb
            clear hb
            go_wp2_with (go_at_call 58; refine HC.out.mono ?_; rintro e w' ⟨rfl, rfl⟩; rw [HB.out])
            go_round
            case rel => exact ⟨k + 1, by omega, by go_num, by unfold Hid; rw [take_succ_getD ls k hlt, List.all_append, hr.out]; simp [HB.out]⟩
            case measure => simp [intOf]; omega
          | false =>
            have HB := Lib.hid hb
            have HQ := Lib.hid (quorOk_kind (need := (nd : Int)) k hlt hb)
            clear hb
            go_wp2_with (go_at_call 58; refine HC.out.mono ?_; rintro e w' ⟨rfl, rfl⟩; rw [HB.out])
            exact ⟨_, results_tmp2 rfl _ _ _, _, by rw [HQ.out]; rfl, by rw [HQ.out]; exact ints_none _, Ext.refl _⟩
        · obtain rfl : k = ls.length := by omega
          have hok := quorOk_all (need := (nd : Int)) ⟨by omega, by omega⟩ hr.out
          have hne : 0 < ls.length := by omega
          have hk0 := headD_eq hne
          obtain ⟨a2, cap2, e2, _, _, hrow⟩ := HL.out.open
          obtain ⟨b', off', x0, rfl, hcx0, hix0⟩ := hrow 0 hne
          injection e2 with e3 e4 e5
          subst e3
          rw [Nat.add_zero] at hcx0
          obtain ⟨ax0, nx0, cx0, rfl⟩ := hix0.isSlice
          have hnx := hix0.len.1
          rw [← hk0] at hnx
          have hkind0 := (List.all_eq_true.1 hr.out) ls[0] (by rw [List.take_length]; exact List.getElem_mem _)
          rw [← hk0] at hkind0
          have HR := Lib.hid (Vec.right_ok (Vec.kind_ok hkind0).1)
          have hz : zeros ((nx0 : Nat) : Int) = List.replicate nx0 0 := by unfold zeros; rw [if_pos (by have := HR.out; omega)]; simp
          have HZ := Lib.hid hz
          have HN := Lib.hid hnx
          have hn1 : 1 ≤ nx0 := by have := HR.out; omega
          have hn8 : nx0 ≤ 8 := by have := HR.out; omega
          have HK := Lib.hid hr.out
          have HOK := Lib.hid hok
          have hzero := Lib.hid (zero_any (nx0 : Int) w)
          clear hk0 hrow e4 e5 hnx hkind0 hz hr hok hix0
          go_wp2_with fail
          refine hzero.out.mono ?_
          rintro e w1 ⟨v1, rfl, ho1, hb1⟩
          rw [HZ.out] at ho1
          unfold OwnI at ho1
          rw [List.length_replicate] at ho1
          obtain ⟨g, cap1, rfl⟩ := Joins.ownsRow_form ho1 (by omega)
          have hglt := (ho1.lt g rfl).2
          have hge := (ho1.lt g rfl).1
          have hm1 : 8 * ls.length ≤ 281474976710656 := by omega
          have hm2 : ls.length ≤ maxLen := by unfold maxLen; omega
          go_wp2_with (refine wpList_mk rfl _ (.tmp 39) tI rfl w1.heap.size ls.length rfl rfl rfl hm1 hm2 (Nat.le_refl _) ?_; intro w2 hown2 hg2)
          have hmax2 := hm2
          refine wp_loop (fun a' wr => ∃ (k m : Nat) (Ds : List Nat) (u10 u44 u45 u46 u47 u48 u49 u50 u56 u57 u58 u59 u60 u61 u62 u63 u64 u65 u66 u67 u68 : Value), k ≤ nx0 ∧ m ≤ ls.length ∧ Ds.Nodup ∧ QInv w (quor ls nd) g w1.heap.size w2.heap.size nx0 cap1 ls.length k Ds m wr ∧ a' = { tmps := #[Value.slice (some ⟨b', off', none⟩) ls.length cap, Value.int IntKind.i64 (nd : Int), undef, undef, u4, u5, undef, u7, Value.slice (some ⟨g, 0, none⟩) nx0 cap1, Value.pointer (some ⟨w2.heap.size, 0, none⟩), u10, undef, Value.int IntKind.i64 (nd : Int), Value.bool false, Value.bool false, Value.int IntKind.i64 (nd : Int), Value.slice (some ⟨b', off', none⟩) ls.length cap, Value.int IntKind.i64 ↑ls.length, Value.bool false, Value.bool false, Value.slice (some ⟨b', off', none⟩) ls.length cap, Value.int IntKind.i64 ↑ls.length, Value.int IntKind.i64 ↑ls.length, Value.bool false, u24, u25, u26, u27, u28, u29, u30, u31, u32, Value.slice (some ⟨b', off', none⟩) ls.length cap, Value.pointer (some ⟨b', off', none⟩), Value.slice ax0 nx0 cx0, Value.int IntKind.i64 ↑nx0, Value.slice (some ⟨g, 0, none⟩) nx0 cap1, Value.slice (some ⟨b', off', none⟩) ls.length cap, Value.int IntKind.i64 ↑ls.length, Value.slice (some ⟨w1.heap.size, 0, none⟩) 0 ls.length, Value.slice (some ⟨g, 0, none⟩) nx0 cap1, Value.int IntKind.i64 ↑nx0, Value.int IntKind.i64 ↑k, u44, u45, u46, u47, u48, u49, u50, undef, undef, undef, undef, undef, u56, u57, u58, u59, u60, u61, u62, u63, u64, u65, u66, u67, u68, undef], defers := marks Ds }) (fun a' _ => nx0 - (intOf (a'.tmps.getD 43 undef)).toNat) ?_ ?_
          · refine ⟨0, 0, [], _, _, _, _, _, _, _, _, _, _, _, _, _, _, _, _, _, _, _, _, _, by omega, by omega, by simp, ?_, rfl⟩
            have hrl : (quor ls nd).length = nx0 := by rw [quor_length]; exact HN.out.symm
            have e1 : i64s (filled (quor ls nd) 0) = i64s (List.replicate nx0 0) := by rw [filled_zero, hrl]
            have hB : Boxed (w2.alloc (.cells #[.slice (some ⟨w1.heap.size, 0, none⟩) 0 ls.length] 32)) w2.heap.size 32 (.slice (some ⟨w1.heap.size, 0, none⟩) 0 ls.length) := Boxed.new w2 _ _
            exact ⟨((hb1.grown hg2 hb1.size (fun k hk => by cases hk)).alloc (Nat.le_trans hb1.size hg2.size) _), by rw [e1]; exact (ho1.kept hg2 (.inr (by simp [Value.ownBlock]))).alloc _, hB, ⟨[], hown2.alloc _⟩, fun D hD => by cases hD⟩
          · rintro a' wr ⟨k, m, Ds, u10, u44, u45, u46, u47, u48, u49, u50, u56, u57, u58, u59, u60, u61, u62, u63, u64, u65, u66, u67, u68, hk, hmL, hnd, hI, rfl⟩
            by_cases hlt : k < nx0
            · have hbc := hI.box.cell
              have hbf := hI.box.frozen
              have hBlt := hI.box.lt
              have hwB : w.heap.size ≤ w2.heap.size := Nat.le_trans hb1.size hg2.size
              have hhB : w1.heap.size < w2.heap.size := (hown2.lt _ rfl).2
              have hgx := grownBy_setCell' wr w2.heap.size (.slice (some ⟨w1.heap.size, 0, none⟩) 0 ls.length)
              have hxo := hI.out.kept hgx (.inr (by simp [Value.ownBlock]; omega))
              have hxb := hI.box.set (.slice (some ⟨w1.heap.size, 0, none⟩) 0 ls.length)
              have hxc := (row_short hI.col.choose_spec).kept hgx (.inr (by simp [Value.ownBlock]; omega))
              have hxe := hI.ext.setCell (p := ⟨w2.heap.size, 0, none⟩) hwB (.slice (some ⟨w1.heap.size, 0, none⟩) 0 ls.length)
              have hxm : ∀ D ∈ Ds, w.heap.size ≤ D ∧ D < wr.heap.size ∧ (wr.setCell ⟨w2.heap.size, 0, none⟩ (.slice (some ⟨w1.heap.size, 0, none⟩) 0 ls.length)).heap[D]? = some (.deferred (some [])) := by
                intro D hD
                obtain ⟨q1, q2, q3⟩ := hI.mks D hD
                refine ⟨q1, q2, (hgx.block D q2 ?_).trans q3⟩
                intro e
                injection e with e
                rw [e, show wr.heap[w2.heap.size]? = _ from hI.box] at q3
                cases q3
              have hxs : (wr.setCell ⟨w2.heap.size, 0, none⟩ (.slice (some ⟨w1.heap.size, 0, none⟩) 0 ls.length)).heap.size = wr.heap.size := by simp [World.setCell]
              obtain ⟨wx, hwx⟩ : ∃ wx, wr.setCell ⟨w2.heap.size, 0, none⟩ (.slice (some ⟨w1.heap.size, 0, none⟩) 0 ls.length) = wx := ⟨_, rfl⟩
              rw [hwx] at hgx hxo hxb hxc hxe hxm hxs
              have HX := Lib.hid hwx
              clear hwx
              go_wp2_with fail
              rw [HX.out]
              refine (numbers_any _ _ wx ⟨_, _, _, rfl⟩).mono ?_
              rintro e W3 ⟨Bl, Bs, rfl, hE3, hcl, hcs, hBl, hBs, hBs2⟩
              have hg3 := hE3.grown
              have h3o := hxo.kept hg3 (.inr (by simp [Value.ownBlock]))
              have h3b := hxb.kept hg3 (by simp)
              have h3c := hxc.kept hg3 (.inr (by simp [Value.ownBlock]))
              have h3e := hxe.trans (Below.mono hE3 hxe.size)
              have h3m : ∀ D ∈ Ds, w.heap.size ≤ D ∧ D < W3.heap.size ∧ W3.heap[D]? = some (.deferred (some [])) := by
                intro D hD
                obtain ⟨q1, q2, q3⟩ := hxm D hD
                exact ⟨q1, Nat.lt_of_lt_of_le (by rw [hxs]; exact q2) hE3.size, (hE3.block D (by rw [hxs]; exact q2)).trans q3⟩
              clear hxo hxb hxc hxm hgx hbc hbf
              go_wp2_with fail
              have hall : ∀ r ∈ ls, Vec.kind r (firstRow ls) = true := fun r hr => (List.all_eq_true.1 HK.out) r (by rw [List.take_length]; exact hr)
              have hlong : ∀ r ∈ ls, k < r.length := fun r hr => by rw [(Vec.kind_ok (hall r hr)).2.2, ← HN.out]; exact hlt
              have hpos : ∀ x ∈ column ls k, 0 ≤ x := by
                intro x hx
                obtain ⟨r, hr, rfl⟩ := List.mem_map.1 hx
                have h5 := hlong r hr
                rw [List.getD_eq_getElem?_getD, List.getElem?_eq_getElem h5]
                exact ((Vec.right_ok (Vec.kind_ok (hall r hr)).1).1 _ (List.getElem_mem h5)).1
              have HALL := Lib.hid hall
              have HLONG := Lib.hid hlong
              have HPOS := Lib.hid hpos
              clear hall hlong hpos
              have hBs3 : w2.heap.size < Bs := by omega
              obtain ⟨i0, hi0, hz0, hs0, hby0⟩ := info_parts tI.info
              have hwW3 : w.heap.size ≤ W3.heap.size := h3e.size
              refine (wpIn_wide (n := 3)).1 ?_
              refine wpIn_rangeFunc_ownG (n := 3) rfl (by omega) (gf := 70) (lb := #[.pointer (some ⟨Bl, 0, none⟩), .pointer (some ⟨Bs, 0, none⟩)]) rfl trivial (enters_of Try.func70 (by kernel_rfl) rfl)
                (numbers_stops Fence.wide (3 - 1) trivial rfl (by omega) Bl Bs _ ls k w W3 HL.out HLONG.out h3e hcl hcs hBl hBs) (fun h k => Kept.trans h k) (kept_b hwW3) (Below.refl _ _) (fun _ => rfl)
                (fun pre W => Boxed W w2.heap.size 32 (.slice (some ⟨w1.heap.size, 0, none⟩) pre.length ls.length) ∧ (W.ownsRow w1.heap.size 3 1 (.slice (some ⟨w1.heap.size, 0, none⟩) pre.length ls.length) pre.length (i64s pre) ∧
                  (W.ownsRow w.heap.size 3 1 (.slice (some ⟨g, 0, none⟩) nx0 cap1) nx0 (i64s (filled (quor ls nd) k)) ∧ (Below w.heap.size w W ∧ ∀ D ∈ Ds, w.heap.size ≤ D ∧ D < W.heap.size ∧ W.heap[D]? = some (.deferred (some []))))))
                (fun _ _ _ => False)
                (OwnFrom.and (Go.Own.from box_own _) (OwnFrom.and (Go.Own.from rows_own _) (OwnFrom.and (Go.Own.from ownRow_own _) (OwnFrom.and (ownFrom_below (Nat.le_refl _) hwW3) (marks_own (fun D hD => (h3m D hD).2.1))))))
                (fun _ _ _ _ _ hs _ _ => hs)
                ⟨h3b, h3c, h3o, h3e, h3m⟩
                (fun x => { tmps := #[Value.slice (some ⟨b', off', none⟩) ls.length cap, Value.int IntKind.i64 (nd : Int), undef, undef, u4, u5, undef, u7, Value.slice (some ⟨g, 0, none⟩) nx0 cap1, Value.pointer (some ⟨w2.heap.size, 0, none⟩), Value.int IntKind.i64 ↑k, Value.int IntKind.i64 x, Value.int IntKind.i64 (nd : Int), Value.bool false, Value.bool false, Value.int IntKind.i64 (nd : Int), Value.slice (some ⟨b', off', none⟩) ls.length cap, Value.int IntKind.i64 ↑ls.length, Value.bool false, Value.bool false, Value.slice (some ⟨b', off', none⟩) ls.length cap, Value.int IntKind.i64 ↑ls.length, Value.int IntKind.i64 ↑ls.length, Value.bool false, u24, u25, u26, u27, u28, u29, u30, u31, u32, Value.slice (some ⟨b', off', none⟩) ls.length cap, Value.pointer (some ⟨b', off', none⟩), Value.slice ax0 nx0 cx0, Value.int IntKind.i64 ↑nx0, Value.slice (some ⟨g, 0, none⟩) nx0 cap1, Value.slice (some ⟨b', off', none⟩) ls.length cap, Value.int IntKind.i64 ↑ls.length, Value.slice (some ⟨w1.heap.size, 0, none⟩) 0 ls.length, Value.slice (some ⟨g, 0, none⟩) nx0 cap1, Value.int IntKind.i64 ↑nx0, Value.int IntKind.i64 ↑k, Value.bool true, Value.int IntKind.i64 ↑k, Value.slice (some ⟨w1.heap.size, 0, none⟩) m ls.length, Value.slice (some ⟨w1.heap.size, 0, none⟩) 0 ls.length, Value.slice (some ⟨b', off', none⟩) ls.length cap, Value.int IntKind.i64 ↑k, Value.func (Fn.func 70) #[] #[Value.pointer (some ⟨Bl, 0, none⟩), Value.pointer (some ⟨Bs, 0, none⟩)], Value.int IntKind.i64 x, undef, undef, undef, undef, u56, u57, u58, u59, u60, u61, u62, u63, u64, u65, u66, u67, u68, undef], defers := [] }) ?assign ?body ?done ?stop
              case assign =>
                intro l x W K hK
                gi_wp2
                exact hK
              case stop =>
                rintro D c pre W _ _ h _
                exact h.elim
              case body =>
                rintro l pre x W ⟨hb, hc, ho, he, hm⟩ hlen
                have hbc := hb.cell
                have hbf := hb.frozen
                have hca := hc.alloc (.cells #[.int .i64 x] 3)
                have hba := hb.alloc (.cells #[.int .i64 x] 3)
                have hoa := ho.alloc (.cells #[.int .i64 x] 3)
                have hcells := row_cells hca
                have hsz := he.size
                have hpl : pre.length + 1 ≤ ls.length := hlen
                gi_wp2_with (gi_at_builtin; refine wpListIn_append_fits _ rfl _ _ 32 rfl w1.heap.size 3 i0 1 Try.underlying32 hi0 hs0 w1.heap.size pre.length ls.length (i64s pre) rfl hca ⟨W.heap.size, 0, none⟩ 1 1 [.int .i64 x] rfl rfl (cell_one_new _ _ _) (by simp [Value.oneCell']) hpl ?_; intro w4 hown4 hg4; have hb4 := hba.kept hg4 (by simp; omega); have hc4 := hb4.cell; have hf4 := hb4.frozen)
                have g5 := grownBy_setCell' w4 w2.heap.size (.slice (some ⟨w1.heap.size, 0, none⟩) (pre.length + 1) ls.length)
                have hlen1 : (pre ++ [x]).length = pre.length + 1 := by simp
                have hout := (hoa.kept hg4 (.inr (by simp [Value.ownBlock]; omega))).kept g5 (.inr (by simp [Value.ownBlock]; omega))
                have hcol := hown4.kept g5 (.inr (by simp [Value.ownBlock]; omega))
                have hbel : Below w.heap.size W (w4.setCell ⟨w2.heap.size, 0, none⟩ (.slice (some ⟨w1.heap.size, 0, none⟩) (pre.length + 1) ls.length)) :=
                  (((Below.refl w.heap.size W).alloc hsz _).grown hg4 (by simp; omega) (fun j ej => by injection ej with ej; omega)).setCell (p := ⟨w2.heap.size, 0, none⟩) hwB _
                have hothers : KeepsOthers W (w4.setCell ⟨w2.heap.size, 0, none⟩ (.slice (some ⟨w1.heap.size, 0, none⟩) (pre.length + 1) ls.length)) := by
                  refine ((KeepsOthers.alloc W _).trans (KeepsOthers.of_grownBy hg4 fun j o ej hj => ?_)).trans (KeepsOthers.setCell _ _ _)
                  injection ej with ej
                  subst ej
                  obtain ⟨cur, hcur, _⟩ := hcells
                  rw [hcur] at hj; cases hj; rfl
                refine ⟨hothers.from _, ⟨hbel, fun v hv => ?_⟩, ?_, ?_, hout, he.trans hbel, fun D hD => ?_⟩
                · exact g5.cell (hg4.cell ((World.grownBy_alloc W _ none).cell hv (by simp)) (by simp; omega)) (by simp; omega)
                · rw [hlen1]; exact hb4.set _
                · rw [hlen1, i64s_append]; exact hcol
                · obtain ⟨q1, q2, q3⟩ := hm D hD
                  exact ⟨q1, Nat.lt_of_lt_of_le q2 hothers.size, hothers.same D _ q3 rfl⟩
              case done =>
                rintro D xs W hD rfl ⟨hb, hc, ho, he, hm⟩ hK
                rw [column_length] at hb hc
                have hbc := hb.cell
                obtain ⟨cur, hcur, hcn, hcm, hcs2, hct⟩ := row_cells hc
                have hsort := AnyM.slices_Sort_int sortIntsL w1.heap.size 0 ls.length (column ls k) W (holds_of_blockI hcur (by rw [column_length]; exact hct)) (Array.getElem?_eq_some_iff.1 hcur).1 (by simp; omega)
                rw [column_length] at hsort
                have HS := Lib.hid hsort
                clear hsort
                go_wp2_with fail
                refine HS.out.mono ?_
                rintro e w6 ⟨rfl, nn, os, hw6⟩
                have g6 : W.grownBy w6 (some w1.heap.size) := by rw [hw6]; exact grownBy_sortedI _
                have hperm : ((column ls k).mergeSort fun x y => decide (x ≤ y)).Perm (column ls k) := List.mergeSort_perm _ _
                have hsl : ((column ls k).mergeSort fun x y => decide (x ≤ y)).length = ls.length := by rw [hperm.length_eq]; simp
                have c6 : w6.ownsRow w1.heap.size 3 1 (.slice (some ⟨w1.heap.size, 0, none⟩) ls.length ls.length) ls.length (i64s ((column ls k).mergeSort fun x y => decide (x ≤ y))) := by
                  have := ownsRow_sortedI (base := w1.heap.size) (n := nn) (os := os) (ss := column ls k) (ts := (column ls k).mergeSort fun x y => decide (x ≤ y)) (cap := ls.length) (by simp) (Nat.le_refl _) hcur (by simp) hm2 (by omega)
                  rw [← hw6, column_length] at this
                  exact this
                clear hw6
                have b6 := hb.kept g6 (by simp; omega)
                have o6 := ho.kept g6 (.inr (by simp [Value.ownBlock]; omega))
                have hlt6 : ls.length - nd < ls.length := by omega
                have hq := Vec.sort_quorum (column ls k) HPOS.out nd (by omega) (by simp; omega) (by rw [hsl]; simp; omega)
                have hcell6 : w6.cell? ⟨w1.heap.size, ls.length - nd, none⟩ = some (.int .i64 (Vec.quorumNum (column ls k) nd)) := by
                  rw [c6.cellAt _ (by omega), ← hq]
                  simp [i64s, hlt6, hsl]
                have hbc6 := b6.cell
                have hql : (quor ls nd).length = nx0 := by rw [quor_length]; exact HN.out.symm
                have hfl : (filled (quor ls nd) k).length = nx0 := by rw [filled_len _ _ (by omega), hql]
                obtain ⟨y6, hoc6⟩ : ∃ y, w6.cell? ⟨g, k, none⟩ = some (.int .i64 y) := by
                  refine ⟨(filled (quor ls nd) k)[k]'(by omega), ?_⟩
                  rw [o6.cellAt k (by omega)]
                  simp [i64s]
                have hof6 := o6.frozenAt k
                have hsub : IntKind.i64.wrap ((ls.length : Int) - (nd : Int)) = ((ls.length - nd : Nat) : Int) := by
                  rw [IntWalk.i64_in _ (by omega)]; omega
                have HC6 := Lib.hid c6
                have HO6 := Lib.hid o6
                have HQL := Lib.hid hql
                have hmk : ∀ D' ∈ Ds, D' ≠ D := fun D' hD' e => by have := (h3m D' hD').2.1; omega
                have hm6 : ∀ D' ∈ D :: Ds, w.heap.size ≤ D' ∧ D' < w6.heap.size ∧ w6.heap[D']? = some (.deferred (some [])) := by
                  intro D' hD'
                  have hq : w.heap.size ≤ D' ∧ D' < W.heap.size ∧ W.heap[D']? = some (.deferred (some [])) := by
                    rcases List.mem_cons.1 hD' with rfl | h
                    · exact ⟨by omega, (Array.getElem?_eq_some_iff.1 hK).1, hK⟩
                    · exact hm D' h
                  obtain ⟨q1, q2, q3⟩ := hq
                  refine ⟨q1, Nat.lt_of_lt_of_le q2 g6.size, (g6.block D' q2 (fun e => ?_)).trans q3⟩
                  injection e with e
                  rw [e, hcur] at q3
                  cases q3
                have HM6 := Lib.hid hm6
                clear c6 o6 hq hperm hsl hql hfl hm6 hmk
                go_wp2_with fail
                have hkq : k < (quor ls nd).length := by rw [HQL.out]; exact hlt
                have hst := HO6.out.stored k (.int .i64 (Vec.quorumNum (column ls k) nd))
                rw [← i64s_set2, ← quor_get ls nd k hkq, ← filled_succ _ k hkq] at hst
                rw [quor_get ls nd k hkq] at hst
                refine ⟨⟨k + 1, ls.length, D :: Ds, _, _, _, _, _, _, _, _, _, _, _, _, _, _, _, _, _, _, _, _, _, by omega, Nat.le_refl _, ?_, ?_, rfl⟩, ?_⟩
                · rw [List.nodup_cons]
                  exact ⟨fun h => by have := (h3m D h).2.1; omega, hnd⟩
                · refine ⟨(he.grown g6 he.size (fun j ej => by injection ej with ej; omega)).setCell (p := ⟨g, k, none⟩) hge _, hst.1, b6.kept hst.2 (by simp; omega), ⟨_, HC6.out.kept hst.2 (.inr (by simp [Value.ownBlock]; omega))⟩, fun D' hD' => ?_⟩
                  obtain ⟨q1, q2, q3⟩ := HM6.out D' hD'
                  refine ⟨q1, Nat.lt_of_lt_of_le q2 hst.2.size, (hst.2.block D' q2 (fun e => ?_)).trans q3⟩
                  injection e with e
                  obtain ⟨cur2, hcur2, _⟩ := row_cells HO6.out
                  rw [e, hcur2] at q3
                  cases q3
                · simp [intOf]; omega
            · obtain rfl : k = nx0 := by omega
              go_wp2
              have hrl : (quor ls nd).length = k := by rw [quor_length]; exact HN.out.symm
              have hfin := hI.out
              rw [show filled (quor ls nd) k = quor ls nd from by rw [← hrl]; exact filled_all _] at hfin
              refine leaves_marks (n₀ := w.heap.size) (fun W => Below w.heap.size w W ∧ W.ownsRow w.heap.size 3 1 (.slice (some ⟨g, 0, none⟩) k cap1) k (i64s (quor ls nd))) ?_ ?_ Ds wr ⟨hI.ext, hfin⟩ hnd (fun D hD => ⟨(hI.mks D hD).1, (hI.mks D hD).2.2⟩)
              · rintro W D ⟨h3, h4⟩ h5 h6
                exact ⟨h3.trans (belowK_b (w := w) (Nat.le_refl _) W D _ _ h5 h6 rfl rfl), ownsRow_putObj h4 _ h6 rfl⟩
              · rintro W ⟨h3, h4⟩
                exact ⟨_, results_tmp2 rfl _ _ _, _, by rw [HOK.out]; rfl, by rw [HOK.out]; exact Sl.ofOwn (by simpa [hrl] using h4), h3⟩
end Go.Proofs.Ythafmjckkobfcab
