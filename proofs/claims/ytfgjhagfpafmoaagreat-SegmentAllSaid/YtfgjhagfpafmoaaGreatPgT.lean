/-
  Merged: Layer 8, the document's answers: Append, Read, Crash.
-/
import Derived.Test.YtfgjhagfpafmoaaGreatPgS

namespace Go.Proofs.YtfgjhagfpafmoaaGreat
set_option linter.unusedSimpArgs false
set_option linter.unusedVariables false
set_option maxRecDepth 100000
open Go.RowKit
/- Layer 8, the document's answers: Append, Read, Crash. -/
/-- What the document's Append tells. -/
def GivesAppR (S : Page.St) (b : List UInt8) (w : World) (e : Ending) (w' : World) : Prop := ∃ v', e = .returned (.tuple #[v', .int .i64 ((S.appendAt b : Nat) : Int), .int .i64 (S.appendErr b)]) ∧ IsRef w' v' (S.append b) ∧ Ext w w'

theorem ext_of_grown {a b c : World} {o : Obj} {row : Option Nat} (h : Ext a b) (hg : (b.alloc o).grownBy c row) (hr : ∀ k, row = some k → a.heap.size ≤ k) : Ext a c := (h.trans (Ext.alloc b o)).grown hg (h.trans (Ext.alloc b o)).size hr
theorem ownSliceN {w : World} {base n : Nat} {v : Value} {l : List (List UInt8)} (h : w.ownsRow base 9 1 v n (txts l)) : ∃ a c, v = .slice a l.length c := by
  obtain ⟨a, c, e, _⟩ := (Sl.ofOwn h)
  exact ⟨a, c, by rw [e, txts_length]⟩

set_option maxHeartbeats 4000000 in
theorem appendRef8_any {S : Page.St} (v u : Value) (bs : List UInt8) (w : World) (h : IsRef w v S) (hS : S.Ok) (hb : Bytes w u bs) (hl : bs.length ≤ 65000) :
    Calls Tryz.prog 135 #[v, u] w (GivesAppR S bs w) := by
  have hR0 := h
  obtain ⟨a, c, rfl, hT⟩ := h
  have HT := Lib.hid hT
  have HS := Lib.hid hS
  have HB := Lib.hid hb
  have HR0 := Lib.hid hR0
  obtain ⟨ub, un, uc, rfl⟩ := hb.isSlice
  have hlu := hb.len
  obtain ⟨rfl, hu1, hu2⟩ := hlu
  unfold refStoV
  obtain ⟨k0, hk0⟩ : ∃ k0 : Int, (S.k : Int) = k0 := ⟨_, rfl⟩
  obtain ⟨n, hn⟩ : ∃ n, S.l.length = n := ⟨_, rfl⟩
  have HN := Lib.hid hn
  have HK := Lib.hid hk0
  have hcnt : n ≤ 65536 := by have := Page.count_le S.l; have := hS.max; omega
  have htx := fun (wy : World) (hE : Ext w wy) => textRef8_any (S := S) (refStoV a S.l.length c S.k S.off) S.l.length wy (hR0.ext hE) hS (Nat.le_refl _)
  unfold refStoV at htx
  rw [hk0, hn] at htx ⊢
  have hmx := hS.max
  have hlenA := hT.1
  clear hT hb hR0
  cases ho : S.off with
  | true =>
    have HO := Lib.hid ho
    clear htx
    go_enter Tryz.func135, Tryz.ntmps135
    go_wp2_with fail
    have h2 := heap_two w (.cells #[.slice a n c, .int .i64 k0, .bool true] 34) (.cells #[.slice a n c, .int .i64 k0, .bool true] 34)
    have hE2 := ext_two w (.cells #[.slice a n c, .int .i64 k0, .bool true] 34) (.cells #[.slice a n c, .int .i64 k0, .bool true] 34)
    have q0 := cell_of_heap h2.2 0
    have q1 := cell_of_heap h2.2 1
    have q2 := cell_of_heap h2.2 2
    generalize ((w.alloc (.cells #[.slice a n c, .int .i64 k0, .bool true] 34)).alloc (.cells #[.slice a n c, .int .i64 k0, .bool true] 34)) = w2 at *
    refine bodyPost_ret (v := .tuple #[.agg #[.slice a n c, .int .i64 k0, .bool true], .int .i64 0, .int .i64 81]) (by simp [results, Tryz.results135, go_sem, q0, q1, q2]) rfl ?_
    have e1 : S.append bs = S := by unfold Page.St.append; rw [if_pos HO.out]
    have e2 : S.appendErr bs = 81 := by unfold Page.St.appendErr; rw [if_pos HO.out]
    have e3 : S.appendAt bs = 0 := by unfold Page.St.appendAt; rw [if_pos HO.out]
    have hr := HR0.out
    unfold refStoV at hr
    rw [HO.out, HN.out, HK.out] at hr
    exact ⟨_, by rw [e2, e3]; rfl, by rw [e1]; exact hr.ext hE2, hE2⟩
  | false =>
    rw [ho] at htx
    have HO := Lib.hid ho
    have HTX := Lib.hid htx
    clear ho htx
    obtain ⟨w2, hw2⟩ : ∃ w2, (w.alloc (.cells #[.slice a n c, .int .i64 k0, .bool false] 34)).alloc (.cells #[.slice none 0 0, .int .i64 0, .bool false] 34) = w2 := ⟨_, rfl⟩
    have h2 := heap_two w (.cells #[.slice a n c, .int .i64 k0, .bool false] 34) (.cells #[.slice none 0 0, .int .i64 0, .bool false] 34)
    have hE2 := ext_two w (.cells #[.slice a n c, .int .i64 k0, .bool false] 34) (.cells #[.slice none 0 0, .int .i64 0, .bool false] 34)
    rw [hw2] at h2 hE2
    have HW2 := Lib.hid hw2
    have H2 := Lib.hid h2
    have htk : S.l.take S.l.length = S.l := List.take_length
    have HTK := Lib.hid htk
    clear hw2 h2 htk hlenA hn hk0
    go_enter Tryz.func135, Tryz.ntmps135
    go_wp2_with fail
    rw [HW2.out]
    have hcall := HTX.out w2 hE2
    refine hcall.mono ?_
    rintro e w3 ⟨rfl, hE3⟩
    have htake : S.l.take n = S.l := by rw [← HN.out]; exact HTK.out
    rw [htake]
    obtain ⟨A, hA⟩ : ∃ A, Page.bytes S.l = A := ⟨_, rfl⟩
    have HA := Lib.hid hA
    rw [hA] at hmx ⊢
    have hEE := hE2.trans hE3
    have hqa := heap_ext H2.out.1 hE3
    have hqb := heap_ext H2.out.2 hE3
    have ka0 := cell_of_heap hqa 0
    have ka1 := cell_of_heap hqa 1
    have ka2 := cell_of_heap hqa 2
    have kb0 := cell_of_heap hqb 0
    have kb1 := cell_of_heap hqb 1
    have kb2 := cell_of_heap hqb 2
    have fa := frozen_of_heap hqa 0
    have fb0 := frozen_of_heap hqb 0
    have fb1 := frozen_of_heap hqb 1
    have fb2 := frozen_of_heap hqb 2
    have hstr := run_str (P := Tryz.prog) 22 9 5 Tryz.underlying22 Tryz.underlying5 Tryz.underlying9 (HB.out.below hEE)
    have hbi : ¬ (65536 : Int) < (bs.length : Int) := by omega
    have hbd : decide ((65536 : Int) < (bs.length : Int)) = false := decide_eq_false hbi
    clear htake hA hcall
    obtain ⟨f, hf⟩ : ∃ f, Page.frame bs = f := ⟨_, rfl⟩
    have HF := Lib.hid hf
    have hfl : f.length ≤ 70013 := by
      have := Pack.num_nine (n := bs.length) (by omega)
      rw [← hf, Page.frame_length]
      omega
    have hfr := fun wy => frameRef_any bs wy (by omega)
    rw [hf] at hfr
    have HFR := Lib.hid hfr
    have hroomv : Page.room S bs = decide (A.length + f.length ≤ 65536) := by unfold Page.room; rw [HA.out, HF.out]
    have HRV := Lib.hid hroomv
    clear hf hfr hroomv
    go_wp2_with fail
    refine (HFR.out w3).mono ?_
    rintro e w4 ⟨rfl, hE4⟩
    have hqa4 := heap_ext hqa hE4
    have hqb4 := heap_ext hqb hE4
    have la0 := cell_of_heap hqa4 0
    have la1 := cell_of_heap hqa4 1
    have la2 := cell_of_heap hqa4 2
    have lb0 := cell_of_heap hqb4 0
    have lb1 := cell_of_heap hqb4 1
    have lb2 := cell_of_heap hqb4 2
    have ga := frozen_of_heap hqa4 0
    have gb0 := frozen_of_heap hqb4 0
    have gb1 := frozen_of_heap hqb4 1
    have gb2 := frozen_of_heap hqb4 2
    have hE04 := hEE.trans hE4
    clear ka0 ka1 ka2 kb0 kb1 kb2 fa fb0 fb1 fb2
    by_cases hroom : A.length + f.length ≤ 65536
    · have HR : Hid (Page.room S bs = true) := Lib.hid (by rw [HRV.out]; exact decide_eq_true hroom)
      have hno : ¬ (65536 : Int) < (A.length : Int) + (f.length : Int) := by omega
      have hnd : decide ((65536 : Int) < (A.length : Int) + (f.length : Int)) = false := decide_eq_false hno
      have hx0 := cell_of_heap (heap_ext hqa4 (Ext.alloc w4 (.cells #[] 9))) 0
      have hown0 : (w4.alloc (.cells #[] 9)).ownsRow w.heap.size 9 1 (.slice (some ⟨w4.heap.size, 0, none⟩) 0 0) 0 [] := World.ownsRow_made w4 #[] 0 hE04.size (by simp [maxLen]) (by simp)
      have hT5 : Txts (w4.alloc (.cells #[] 9)) (.slice a n c) S.l := by have := HT.out.ext (hE04.trans (Ext.alloc w4 (.cells #[] 9))); rw [HN.out] at this; exact this
      have hz1 : 0 + (txts S.l).length ≤ maxLen := by rw [txts_length, HN.out]; unfold maxLen; omega
      have hz2 : (0 + (txts S.l).length) * 16 ≤ 140737488355328 := by rw [txts_length, HN.out]; omega
      have hz3 : w.heap.size ≤ (w4.alloc (.cells #[] 9)).heap.size := by have := hE04.size; simp; omega
      have HZ1 := Lib.hid hz1
      have HZ2 := Lib.hid hz2
      have HZ3 := Lib.hid hz3
      have HT5 := Lib.hid hT5
      clear hz1 hz2 hz3 hT5
      have hy1 : S.l.length + (txts [bs]).length ≤ maxLen := by rw [txts_length, HN.out, List.length_singleton]; unfold maxLen; omega
      have hy2 : (S.l.length + (txts [bs]).length) * 16 ≤ 140737488355328 := by rw [txts_length, HN.out, List.length_singleton]; omega
      have HY1 := Lib.hid hy1
      have HY2 := Lib.hid hy2
      have hbs8 := txts_one [bs]
      have HBS := Lib.hid hbs8
      clear hy1 hy2 hbs8
      go_wp2_with (first
        | (at_builtin; refine wpList_app rfl (.tmp 31) (.tmp 33) tStE rfl rfl rfl hown0 HT5.out.1 (txts_one _) HZ1.out HZ2.out HZ3.out ?_; intro v5 w5 hown5 hg5; rw [List.nil_append, txts_length, Nat.zero_add] at hown5; obtain ⟨a5, c5, rfl⟩ := ownSliceN hown5; have hE5 : Ext w w5 := ((hE04.trans (Ext.alloc w4 (.cells #[] 9))).grown hg5 (hE04.trans (Ext.alloc w4 (.cells #[] 9))).size (fun k e => (hown0.lt k e).1)); have hE45 : Ext w3 w5 := ext_of_grown hE4 (show (w4.alloc (.cells #[] 9)).grownBy w5 (some w4.heap.size) from hg5) (fun k e => by injection e with e; have := hE4.size; omega); have hstr5 := run_str (P := Tryz.prog) 22 9 5 Tryz.underlying22 Tryz.underlying5 Tryz.underlying9 (HB.out.below hE5))
        | (at_builtin; refine wpList_app rfl (.tmp 35) (.tmp 38) tStE rfl rfl rfl (hown5.alloc _) (show Sl _ _ (txts [bs]) from Sl.made w5 (txts [bs]) 9 1 rfl (by simp [maxLen])) HBS.out HY1.out HY2.out (by have := hE5.size; simp; omega) ?_; intro v6 w6 hown6 hg6; rw [← txts_append, txts_length, List.length_singleton] at hown6; obtain ⟨a6, c6, rfl⟩ := ownSliceN hown6; have hqa5 := heap_ext (heap_ext hqa hE45) (Ext.alloc w5 (.cells #[.string ⟨bs.toArray⟩] 9)); have hqb5 := heap_ext (heap_ext hqb hE45) (Ext.alloc w5 (.cells #[.string ⟨bs.toArray⟩] 9)); have hqa6 := (hg6.block _ (Array.getElem?_eq_some_iff.1 hqa5).1 (rowBeside (hown5.alloc _) hqa5 (by decide))).trans hqa5; have hqb6 := (hg6.block _ (Array.getElem?_eq_some_iff.1 hqb5).1 (rowBeside (hown5.alloc _) hqb5 (by decide))).trans hqb5; have m0 := cell_of_heap hqa6 0; have m1 := cell_of_heap hqa6 1; have m2 := cell_of_heap hqa6 2; have mf := frozen_of_heap hqa6 0; have n0 := cell_of_heap hqb6 0; have n1 := cell_of_heap hqb6 1; have n2 := cell_of_heap hqb6 2; have nf0 := frozen_of_heap hqb6 0; have nf1 := frozen_of_heap hqb6 1; have nf2 := frozen_of_heap hqb6 2))
      have hE6 : Ext w w6 := ext_of_grown hE5 hg6 (fun k e => (hown5.lt k e).1)
      have hset := heap_setCell hqa6 0 (.slice a6 (S.l.length + 1) c6)
      have hqb7 := (Below.heap_setCell w6 ⟨w.heap.size, 0, none⟩ (.slice a6 (S.l.length + 1) c6) (w.heap.size + 1) (by simp)).trans hqb6
      have hown7 := rowBut hown6 (rowBeside hown6 hqa6 (by decide)) (butSet w6 w.heap.size 0 (.slice a6 (S.l.length + 1) c6))
      have hE7 : Ext w (w6.setCell ⟨w.heap.size, 0, none⟩ (.slice a6 (S.l.length + 1) c6)) := Below.setCell hE6 (Nat.le_refl _) _
      generalize w6.setCell ⟨w.heap.size, 0, none⟩ (.slice a6 (S.l.length + 1) c6) = w7 at *
      obtain ⟨hf1, hf2⟩ := fill_ref (y0 := .slice a6 (S.l.length + 1) c6) (y1 := .int .i64 k0) (y2 := .bool false) hqb7
      have q0 := cell_of_heap hf1 0
      have q1 := cell_of_heap hf1 1
      have q2 := cell_of_heap hf1 2
      have hT7 := (Txts.own hown7).keep (KeepS.but hf2 hqb7 (by decide))
      have hE8 : Ext w (((w7.setCell ⟨w.heap.size + 1, 0, none⟩ (.slice a6 (S.l.length + 1) c6)).setCell ⟨w.heap.size + 1, 1, none⟩ (.int .i64 k0)).setCell ⟨w.heap.size + 1, 2, none⟩ (.bool false)) := Below.setCell (Below.setCell (Below.setCell hE7 (Nat.le_succ _) _) (Nat.le_succ _) _) (Nat.le_succ _) _
      generalize ((w7.setCell ⟨w.heap.size + 1, 0, none⟩ (.slice a6 (S.l.length + 1) c6)).setCell ⟨w.heap.size + 1, 1, none⟩ (.int .i64 k0)).setCell ⟨w.heap.size + 1, 2, none⟩ (.bool false) = w8 at *
      refine bodyPost_ret (v := .tuple #[.agg #[.slice a6 (S.l.length + 1) c6, .int .i64 k0, .bool false], .int .i64 (A.length : Int), .int .i64 0]) (by simp [results, Tryz.results135, go_sem, q0, q1, q2]) rfl ?_
      have e1 : S.append bs = ⟨S.l ++ [bs], S.k, S.off⟩ := by unfold Page.St.append; rw [if_neg (by rw [HO.out]; simp), if_pos HR.out]
      have e2 : S.appendErr bs = 0 := by unfold Page.St.appendErr; rw [if_neg (by rw [HO.out]; simp), if_pos HR.out]
      have e3 : S.appendAt bs = A.length := by unfold Page.St.appendAt; rw [if_neg (by rw [HO.out]; simp), if_pos HR.out, HA.out]
      refine ⟨_, by rw [e2, e3], ?_, hE8⟩
      rw [e1]
      refine ⟨a6, c6, ?_, hT7⟩
      unfold refStoV
      rw [HO.out, HK.out, List.length_append]
      rfl
    · have HR : Hid (Page.room S bs = false) := Lib.hid (by rw [HRV.out]; exact decide_eq_false hroom)
      have hyes : (65536 : Int) < (A.length : Int) + (f.length : Int) := by omega
      have hyd : decide ((65536 : Int) < (A.length : Int) + (f.length : Int)) = true := decide_eq_true hyes
      go_wp2_with fail
      obtain ⟨hf1, hf2⟩ := fill_ref (y0 := .slice a n c) (y1 := .int .i64 k0) (y2 := .bool false) hqb4
      have q0 := cell_of_heap hf1 0
      have q1 := cell_of_heap hf1 1
      have q2 := cell_of_heap hf1 2
      have hE8 : Ext w (((w4.setCell ⟨w.heap.size + 1, 0, none⟩ (.slice a n c)).setCell ⟨w.heap.size + 1, 1, none⟩ (.int .i64 k0)).setCell ⟨w.heap.size + 1, 2, none⟩ (.bool false)) := Below.setCell (Below.setCell (Below.setCell hE04 (Nat.le_succ _) _) (Nat.le_succ _) _) (Nat.le_succ _) _
      generalize ((w4.setCell ⟨w.heap.size + 1, 0, none⟩ (.slice a n c)).setCell ⟨w.heap.size + 1, 1, none⟩ (.int .i64 k0)).setCell ⟨w.heap.size + 1, 2, none⟩ (.bool false) = w8 at *
      refine bodyPost_ret (v := .tuple #[.agg #[.slice a n c, .int .i64 k0, .bool false], .int .i64 0, .int .i64 80]) (by simp [results, Tryz.results135, go_sem, q0, q1, q2]) rfl ?_
      have e1 : S.append bs = S := by unfold Page.St.append; rw [if_neg (by rw [HO.out]; simp), if_neg (by rw [HR.out]; simp)]
      have e2 : S.appendErr bs = 80 := by unfold Page.St.appendErr; rw [if_neg (by rw [HO.out]; simp), if_neg (by rw [HR.out]; simp)]
      have e3 : S.appendAt bs = 0 := by unfold Page.St.appendAt; rw [if_neg (by rw [HO.out]; simp), if_neg (by rw [HR.out]; simp)]
      have hr := HR0.out
      unfold refStoV at hr
      rw [HO.out, HN.out, HK.out] at hr
      exact ⟨_, by rw [e2, e3]; rfl, by rw [e1]; exact hr.ext hE8, hE8⟩
end Go.Proofs.YtfgjhagfpafmoaaGreat
