/-
  Layer 3: a vector as bytes, and bytes as a vector: the document's own answers.
-/
import Derived.Test.YtboopfbflfimlaaVecF
import Derived.Test.YtboopfbflfimlaaPackRefRead
import Derived.Lib.ConvBytes
namespace Go.Proofs.Ytboopfbflfimlaa
open Go.RowKit

/-- []byte(s), read back. -/
theorem bytes_of_str (w : World) (l : List UInt8) (e : TypeId) (hl : l.length ≤ maxLen) : Bytes (Lib.bytesWorld w e ⟨l.toArray⟩) (.slice (some ⟨w.heap.size, 0, none⟩) l.length (grownCap w l.length 0 e)) l := by
  refine ⟨some ⟨w.heap.size, 0, none⟩, grownCap w l.length 0 e, by rw [u8s_length], by rw [u8s_length]; exact grownCap_ge _ _ _ _, grownCap_le_maxLen _ _ _ _ hl, fun e => by simp at e, fun i hi => ⟨_, _, rfl, ?_⟩⟩
  have hi' : i < l.length := by simpa using hi
  rw [Nat.zero_add, Lib.bytesWorld_cell w e _ i (by simpa [ByteArray.size] using hi')]
  simp [u8s, hi']
theorem ext_bytesWorld (w : World) (e : TypeId) (s : ByteArray) : Ext w (Lib.bytesWorld w e s) :=
  ⟨rfl, rfl, rfl, by rw [Lib.bytesWorld_size]; omega, fun k hk => Lib.bytesWorld_at_old w e s k hk⟩
theorem run_conv (w : World) (l : List UInt8) : (convert 9 27 (.string ⟨l.toArray⟩)).run Try.prog w = .ok (.slice (some ⟨w.heap.size, 0, none⟩) l.length (grownCap w l.length 0 5)) (Lib.bytesWorld w 5 ⟨l.toArray⟩) := by
  have := Lib.run_convert_string_bytes (P := Try.prog) w 9 27 5 ⟨l.toArray⟩ Try.underlying9 Try.underlying27 Try.underlying5
  rwa [str_len] at this

theorem nums_take_succ (ns : List Int) (k : Nat) (hk : k < ns.length) (ho : okNum ns[k] = true) : nums (ns.take (k + 1)) = nums (ns.take k) ++ oneNum ns[k] := by
  rw [take_succ_getD ns k hk, nums_snoc]
  unfold oneNum
  rw [if_pos ho]

set_option maxRecDepth 100000 in
set_option maxHeartbeats 4000000 in
theorem refEncode_any (v : Value) (ns : List Int) (w : World) (hv : Ints w v ns) :
    Calls Try.prog 34 #[v] w (GivesEnc w (bytesOr (Vec.right ns) (Vec.enc ns)) (formErr (Vec.right ns))) := by
  have HV := Lib.hid hv
  obtain ⟨a, cap, rfl, hcap, hmax, _, _⟩ := hv.open
  unfold maxLen at hmax
  clear hv
  cases hr : Vec.right ns with
  | false =>
    have HR := Lib.hid hr
    clear hr
    go_enter Try.func34, Try.ntmps34
    go_wp2_with fail
    refine (refRight_any _ ns _ HV.out).mono ?_
    rintro e w1 ⟨rfl, rfl⟩
    rw [HR.out]
    go_wp2_with fail
    go_ret2
    exact ⟨_, rfl, bytes_none _, Ext.refl _⟩
  | true =>
    have HR := Lib.hid hr
    have hlen := (Vec.right_ok hr).2
    have HO := Lib.hid (right_okNum hr)
    have h1 : oneNum (ns.length : Int) = Pack.num ns.length := by
      unfold oneNum okNum
      rw [if_pos (by rw [decide_eq_true_eq]; omega)]
      rfl
    have HN := Lib.hid (numRef_any (ns.length : Int) w)
    have H1 := Lib.hid h1
    clear hr h1
    go_enter Try.func34, Try.ntmps34
    go_wp2_with fail
    refine (refRight_any _ ns _ HV.out).mono ?_
    rintro e w1 ⟨rfl, rfl⟩
    rw [HR.out]
    go_wp2_with fail
    refine HN.out.mono ?_
    rw [H1.out]
    rintro e w1 ⟨rfl, hE1⟩
    go_wp2_with fail
    go_loopw [4, 5] (fun s i wr => ∃ k : Nat, k ≤ ns.length ∧ i = .int .i64 k ∧ (∃ l : List UInt8, s = .string ⟨l.toArray⟩ ∧ Hid (l = Pack.num ns.length ++ nums (ns.take k))) ∧ Ext w wr) (fun _ i _ => ns.length - (intOf i).toNat)
    case atStart => exact ⟨0, by omega, rfl, ⟨_, rfl, by simp [Hid, nums]⟩, hE1⟩
    case round =>
      obtain ⟨k, hk, rfl, ⟨l, rfl, hl⟩, hE⟩ := hrel
      by_cases hlt : k < ns.length
      · obtain ⟨a2, cap2, e2, _, _, _, hc⟩ := (HV.out.below hE).open
        obtain ⟨b, off, rfl, hcell⟩ := hc k hlt
        injection e2 with e2 e3 e4
        subst e2
        clear hc e3 e4
        have hok : okNum ns[k] = true := (List.all_eq_true.1 HO.out) _ (List.getElem_mem hlt)
        have hs := nums_take_succ ns k hlt hok
        have HN2 := Lib.hid (numRef_any ns[k] wr)
        obtain ⟨z, hz⟩ : ∃ z, oneNum ns[k] = z := ⟨_, rfl⟩
        rw [hz] at hs HN2
        have hadd := mk_append l z
        have HL := Lib.hid (show l ++ z = Pack.num ns.length ++ nums (ns.take (k + 1)) by rw [hs, hl.out, List.append_assoc])
        have hb9 : z.length ≤ 9 := by rw [← hz]; exact oneNum_le _
        have hll : l.length ≤ 100 := by
          have h5 := congrArg List.length hl.out
          have h6 := nums_le (ns.take k) (by rw [List.all_eq_true]; intro x hx; exact (List.all_eq_true.1 HO.out) x (List.mem_of_mem_take hx))
          have h7 := Pack.num_nine (n := ns.length) (by omega)
          have h8 : (ns.take k).length ≤ 8 := by simp; omega
          rw [List.length_append] at h5
          omega
        have hs1 := str_len l
        have hs2 := str_len z
        clear hs hz hok
        go_wp2_with fail
        refine HN2.out.mono ?_
        rintro e w4 ⟨rfl, hE4⟩
        go_wp2_with fail
        go_roundw
        case rel => exact ⟨k + 1, by omega, by go_num, ⟨_, rfl, HL⟩, hE.trans hE4⟩
        case measure => simp [intOf]; omega
      · have hfin : l = Vec.enc ns := by
          rw [hl.out, List.take_of_length_le (by omega)]
          rfl
        have HF := Lib.hid hfin
        have hle : l.length ≤ maxLen := by
          rw [hfin]
          have h6 := nums_le ns HO.out
          have h7 := Pack.num_nine (n := ns.length) (by omega)
          unfold Vec.enc maxLen
          rw [List.length_append]
          omega
        have hby := bytes_of_str wr l 5 hle
        have HBY := Lib.hid hby
        have hcv := run_conv wr l
        clear hfin hl hby
        go_wp2_with fail
        go_ret2
        exact ⟨_, rfl, by show Bytes _ _ (Vec.enc ns); rw [← HF.out]; exact HBY.out, hE.trans (ext_bytesWorld _ _ _)⟩
/-- A row of the call's own lies beside a block of another type. -/
theorem row_beside {w : World} {base q n : Nat} {e t : TypeId} {v : Value} {xs : List Value} {cs : Array Value} {fr : Nat × Nat} (ho : w.ownsRow base e 1 v n xs) (hq : w.heap[q]? = some (.cells cs t fr)) (hte : t ≠ e) : some q ≠ v.ownBlock := by
  rcases ho.2 with ⟨rfl, _⟩ | ⟨g, cap, cur, rfl, _, hgb, _⟩
  · simp [Value.ownBlock]
  · intro e'
    obtain rfl : q = g := by simpa [Value.ownBlock] using e'
    rw [hq] at hgb
    simp at hgb
    exact hte hgb.2.1
theorem grownBy_setAny (W : World) (b o : Nat) (v : Value) : W.grownBy (W.setCell ⟨b, o, none⟩ v) (some b) :=
  ⟨rfl, rfl, rfl, by simp [World.setCell], fun k _ hk => Below.heap_setCell _ _ _ k (fun e => hk (by rw [e]))⟩

theorem build_ref (w : World) (s : ByteArray) : (Instr.build 76 #[(0, .string s)]).run Try.prog w = .ok (.agg #[.string s, .int .i64 0]) w := by kernel_rfl

set_option maxRecDepth 100000 in
set_option maxHeartbeats 8000000 in
theorem refDecode_own (v : Value) (l : List UInt8) (w : World) (hv : Bytes w v l) (hl : l.length ≤ 140737488355328) :
    Calls Try.prog 49 #[v] w (GivesDecO w l) := by
  have HV := Lib.hid hv
  have hst := run_str (P := Try.prog) 27 9 5 Try.underlying27 Try.underlying5 Try.underlying9 hv
  have hbr := build_ref
  obtain ⟨a, cap, rfl, hcap, hmax, hn, hc⟩ := hv.open
  unfold maxLen at hmax
  clear hv hc
  have hm8 := decN_eight l
  have hread := readNumRef_any l 8 ⟨l, 0⟩ w ⟨fun _ => rfl, fun h => absurd rfl h⟩ hl
  unfold refVal at hread
  have HREAD := Lib.hid hread
  clear hread
  go_enter Try.func49, Try.ntmps49
  go_wp2_with fail
  refine HREAD.out.mono ?_
  rintro e w1 ⟨l1, rfl, hs1, hl1, hE1⟩
  have hdn : (Pack.St.num ⟨l, 0⟩ 8).2 = decN l := rfl
  have hds : decS l = readsTo (Pack.St.num ⟨l, 0⟩ 8).1 (decN l) := rfl
  obtain ⟨s1, hs0⟩ : ∃ s1, (Pack.St.num ⟨l, 0⟩ 8).1 = s1 := ⟨_, rfl⟩
  rw [hs0] at hds hs1 ⊢
  obtain ⟨m, hm⟩ : ∃ m, decN l = m := ⟨_, rfl⟩
  rw [hm] at hds hm8
  rw [hdn, hm]
  have HDS := Lib.hid hds
  have HM := Lib.hid hm
  clear hdn hs0 hds hm
  have hbox : (w1.alloc (.cells #[.string ⟨l1.toArray⟩, .int .i64 s1.err] 76)).heap[w1.heap.size]? = some (.cells #[.string ⟨l1.toArray⟩, .int .i64 s1.err] 76 (0, 0)) := heap_alloc_new w1 _
  go_wp2_with fail
  go_loopw [6, 7, 8, 9] (fun o i _ _ wr => ∃ k : Nat, k ≤ m ∧ i = .int .i64 k ∧ wr.ownsRow w.heap.size 3 1 o k (i64s (readsTo s1 k).2) ∧ Ext w wr ∧
    ∃ lk : List UInt8, wr.heap[w1.heap.size]? = some (.cells #[.string ⟨lk.toArray⟩, .int .i64 (readsTo s1 k).1.err] 76 (0, 0)) ∧ Sim lk (readsTo s1 k).1 ∧ lk.length ≤ l.length) (fun _ i _ _ _ => m - (intOf i).toNat)
  case atStart => exact ⟨0, by omega, rfl, World.ownsRow_nil _ _ _ _, hE1.trans (Ext.alloc _ _), l1, hbox, hs1, hl1⟩
  case round =>
    obtain ⟨k, hk, rfl, ho, hE, lk, hbx, hsim, hlk⟩ := hrel
    by_cases hlt : k < m
    · have hc0 := cell_of_heap hbx 0
      have hc1 := cell_of_heap hbx 1
      simp only [List.getElem?_toArray, List.getElem?_cons_zero, List.getElem?_cons_succ] at hc0 hc1
      have hread := readNumRef_any lk 1099511627776 (readsTo s1 k).1 wr hsim (by omega)
      unfold refVal at hread
      have HR := Lib.hid hread
      have hq1 : w1.heap.size < wr.heap.size := (Array.getElem?_eq_some_iff.1 hbx).1
      clear hread
      go_wp2_with fail
      refine HR.out.mono ?_
      rintro e w4 ⟨l4, rfl, hs4, hl4, hE4⟩
      obtain ⟨s4, hs4e⟩ : ∃ s4, ((readsTo s1 k).1.num 1099511627776).1 = s4 := ⟨_, rfl⟩
      obtain ⟨x, hx⟩ : ∃ x : Int, (((readsTo s1 k).1.num 1099511627776).2 : Int) = x := ⟨_, rfl⟩
      rw [hs4e] at hs4 ⊢
      rw [hx]
      have hnext : readsTo s1 (k + 1) = (s4, (readsTo s1 k).2 ++ [x]) := by
        show ((((readsTo s1 k).1.num 1099511627776).1, (readsTo s1 k).2 ++ [(((readsTo s1 k).1.num 1099511627776).2 : Int)])) = _
        rw [hs4e, hx]
      have HNEXT := Lib.hid hnext
      have hb4 := (hE4.block _ hq1).trans hbx
      have hq4 : w1.heap.size < w4.heap.size := (Array.getElem?_eq_some_iff.1 hb4).1
      have hE4' : Ext w w4 := hE.trans hE4
      have ho4 := ho.kept hE4.grown (by
        rcases ho.2 with ⟨rfl, _⟩ | ⟨g, cap, cur, rfl, _⟩
        · exact .inl rfl
        · exact .inr (by simp [Value.ownBlock]))
      clear hnext hs4e hx ho
      have hd0 := cell_of_heap hb4 0
      have hd1 := cell_of_heap hb4 1
      simp only [List.getElem?_toArray, List.getElem?_cons_zero, List.getElem?_cons_succ] at hd0 hd1
      have hf0 := frozen_of_heap hb4 0
      have hf1 := frozen_of_heap hb4 1
      have HB4 := Lib.hid hb4
      clear hb4
      have hnb := row_beside ho4 HB4.out (by decide)
      have ho5 := (ho4.kept (grownBy_setAny w4 w1.heap.size 0 (.string ⟨l4.toArray⟩)) (.inr (Ne.symm hnb))).kept (grownBy_setAny _ w1.heap.size 1 (.int .i64 s4.err)) (.inr (Ne.symm hnb))
      have hb5 := heap_setCell (heap_setCell HB4.out 0 (.string ⟨l4.toArray⟩)) 1 (.int .i64 s4.err)
      rw [show ((#[Value.string ⟨lk.toArray⟩, Value.int .i64 (readsTo s1 k).1.err] : Array Value).setIfInBounds 0 (.string ⟨l4.toArray⟩)).setIfInBounds 1 (.int .i64 s4.err) = #[.string ⟨l4.toArray⟩, .int .i64 s4.err] from rfl] at hb5
      have hsz5 : w.heap.size ≤ ((w4.setCell ⟨w1.heap.size, 0, none⟩ (.string ⟨l4.toArray⟩)).setCell ⟨w1.heap.size, 1, none⟩ (.int .i64 s4.err)).heap.size := by
        simp [World.setCell]
        exact hE4'.size
      have ho6 := ho5.alloc (.cells #[.string ⟨l4.toArray⟩, .int .i64 s4.err] 76)
      have hb6 := (Below.heap_alloc _ (.cells #[.string ⟨l4.toArray⟩, .int .i64 s4.err] 76) _ (Array.getElem?_eq_some_iff.1 hb5).1).trans hb5
      have hb7 := (Below.heap_alloc _ (.cells #[.int .i64 x] 3) _ (Array.getElem?_eq_some_iff.1 hb6).1).trans hb6
      have hone := i64s_one [x]
      have hsl7 : Sl ((((w4.setCell ⟨w1.heap.size, 0, none⟩ (.string ⟨l4.toArray⟩)).setCell ⟨w1.heap.size, 1, none⟩ (.int .i64 s4.err)).alloc (.cells #[.string ⟨l4.toArray⟩, .int .i64 s4.err] 76)).alloc (.cells #[.int .i64 x] 3)) (.slice (some ⟨w4.heap.size + 1, 0, none⟩) 1 1) (i64s [x]) := by
        have := Ints.one (((w4.setCell ⟨w1.heap.size, 0, none⟩ (.string ⟨l4.toArray⟩)).setCell ⟨w1.heap.size, 1, none⟩ (.int .i64 s4.err)).alloc (.cells #[.string ⟨l4.toArray⟩, .int .i64 s4.err] 76)) x
        unfold Ints at this
        simpa [World.setCell] using this
      have HSL7 := Lib.hid hsl7
      clear hsl7
      have HB7 := Lib.hid hb7
      have HS5 := Lib.hid hsz5
      have HO6 := Lib.hid ho6
      clear hb5 hb6 hb7 ho5 ho6 hsz5 ho4
      go_wp2_with (at_builtin; refine wpList_app rfl (.tmp 28) (.tmp 30) tI rfl (base := w.heap.size) (n := k) (xs := i64s (readsTo s1 k).2) (ys := i64s [x]) rfl rfl (HO6.out.alloc _) HSL7.out hone ?c3 ?c4 ?c5 ?_; rotate_right; intro v2 w5 hown5 hg5)
      case c3 => (try simp only [i64s_length, List.length_cons, List.length_nil]); (try unfold maxLen); omega
      case c4 => (try simp only [i64s_length, List.length_cons, List.length_nil]); omega
      case c5 => have := HS5.out; first | (simp only [World.size_alloc]; omega) | omega
      go_roundw
      case rel =>
        have hE6 : Below w.heap.size w w5 := by
          refine Below.grown ?_ hg5 ?_ ?_
          · exact (((hE4'.setCell (p := ⟨w1.heap.size, 0, none⟩) hE1.size _).setCell (p := ⟨w1.heap.size, 1, none⟩) hE1.size _).alloc HS5.out _).alloc (by have := HS5.out; simp only [World.size_alloc]; omega) _
          · have := HS5.out; simp only [World.size_alloc]; omega
          · intro j hj; exact (HO6.out.lt j hj).1
        refine ⟨k + 1, by omega, by go_num, ?_, hE6, l4, ?_, ?_, by omega⟩
        · rw [HNEXT.out]; simpa using hown5
        · rw [HNEXT.out]; exact (hg5.block _ (Array.getElem?_eq_some_iff.1 HB7.out).1 hnb).trans HB7.out
        · rw [HNEXT.out]; exact hs4
      case measure => simp [intOf]; omega
    · obtain rfl : k = m := by omega
      have hc0 := cell_of_heap hbx 0
      have hc1 := cell_of_heap hbx 1
      simp only [List.getElem?_toArray, List.getElem?_cons_zero, List.getElem?_cons_succ] at hc0 hc1
      have hend := endRef_any lk (readsTo s1 k).1 wr hsim (by omega)
      unfold refVal at hend
      obtain ⟨d, hd⟩ : ∃ d, (readsTo s1 k).1.done = d := ⟨_, rfl⟩
      have hok : decOk l = (decide (1 ≤ k) && (d == 0)) := by
        unfold decOk
        rw [HM.out, HDS.out, hd]
      rw [hd] at hend
      have HEND := Lib.hid hend
      have hI : wr.ownsRow w.heap.size 3 1 u6 (readsTo s1 k).2.length (i64s (readsTo s1 k).2) := by rw [readsTo_len]; exact ho
      have HI := Lib.hid hI
      clear hend hd hI ho
      unfold GivesDecO
      by_cases hd0 : d = 0
      · subst hd0
        by_cases hk1 : (k : Int) < 1
        · rw [decide_eq_false (by omega)] at hok
          have HOK := Lib.hid hok
          clear hok
          go_wp2_with fail
          refine HEND.out.mono ?_
          rintro e w6 ⟨rfl, hE6⟩
          go_wp2_with fail
          go_ret2
          exact ⟨_, by rw [HOK.out]; rfl, by rw [HOK.out]; exact World.ownsRow_nil _ _ _ _, hE.trans hE6⟩
        · rw [decide_eq_true (by omega)] at hok
          have HOK := Lib.hid hok
          clear hok
          go_wp2_with fail
          refine HEND.out.mono ?_
          rintro e w6 ⟨rfl, hE6⟩
          go_wp2_with fail
          go_ret2
          exact ⟨_, by rw [HOK.out]; rfl, by rw [HOK.out, HDS.out]; exact rowKeptI HI.out hE6, hE.trans hE6⟩
      · have hd1 : (d == 0) = false := by rw [beq_eq_false_iff_ne]; exact hd0
        rw [hd1, Bool.and_false] at hok
        have HOK := Lib.hid hok
        clear hok
        go_wp2_with fail
        refine HEND.out.mono ?_
        rintro e w6 ⟨rfl, hE6⟩
        go_wp2_with fail
        go_ret2
        exact ⟨_, by rw [HOK.out]; rfl, by rw [HOK.out]; exact World.ownsRow_nil _ _ _ _, hE.trans hE6⟩
theorem refDecode_any (v : Value) (l : List UInt8) (w : World) (hv : Bytes w v l) (hl : l.length ≤ 140737488355328) :
    Calls Try.prog 49 #[v] w (GivesDec w l) := (refDecode_own v l w hv hl).mono fun _ _ h => h.any
end Go.Proofs.Ytboopfbflfimlaa
