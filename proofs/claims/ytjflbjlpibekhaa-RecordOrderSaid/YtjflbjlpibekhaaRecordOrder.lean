/-
  RecordOrder: which of two places is ahead is what the document says; of three the order of two pairs is that of the third: for every input the statement's function returns true, and leaves what came in as it was.
-/
import Derived.Test.YtjflbjlpibekhaaRecRaw
namespace Go.Proofs.Ytjflbjlpibekhaa
set_option maxRecDepth 100000
open Go.ChangeShapes Go.WideShapes Go.ChangeAt Go.RowKit

theorem ld_seq {w : World} {q : Nat} {t p : Int} {fr : Nat × Nat} (h : w.heap[q]? = some (.cells #[.int .i64 t, .int .i64 p] 45 fr)) : (Instr.loadAt 45 (.pointer (some ⟨q, 0, none⟩))).run Try.prog w = .ok (.agg #[.int .i64 t, .int .i64 p]) w := by
  have z0 := cell_of_heap h 0
  have z1 := cell_of_heap h 1
  simp at z0 z1
  simp [go_sem, z0, z1]
theorem cells2 {w : World} {p : Nat} {x0 x1 : Value} {T : TypeId} {fr : Nat × Nat} (h : w.heap[p]? = some (.cells #[x0, x1] T fr)) : w.cell? ⟨p, 0, none⟩ = some x0 ∧ w.cell? ⟨p, 1, none⟩ = some x1 :=
  ⟨cell_of_heap h 0, cell_of_heap h 1⟩
theorem less_iff (t p u q : Int) : Rec.less t p u q = true ↔ t < u ∨ (t = u ∧ p < q) := by
  rw [Rec.less_eq]
  by_cases h : t = u
  · subst h; simp
  · rw [if_neg h]; simp [h]
theorem less_iff_not (t p u q : Int) : Rec.less t p u q = false ↔ ¬ (t < u ∨ (t = u ∧ p < q)) := by
  rw [← less_iff]; simp
theorem less_not {t p u q : Int} (h : Rec.less t p u q = true) : Rec.less u q t p = false := by
  rw [less_iff] at h
  rw [less_iff_not]
  omega
theorem less_self (t p : Int) : Rec.less t p t p = false := by
  rw [less_iff_not]
  omega
theorem less_same {t p u q : Int} (h : Rec.less t p u q = false) (k : Rec.less u q t p = false) : t = u ∧ p = q := by
  rw [less_iff_not] at h k
  omega
theorem less_trans {t p u q x y : Int} (h : Rec.less t p u q = true) (k : Rec.less u q x y = true) : Rec.less t p x y = true := by
  rw [less_iff] at h k ⊢
  omega

set_option maxHeartbeats 8000000 in
theorem recordOrder_walk (t p u q x y : Int) (W : World) :
    Calls Try.prog 8 #[seqV t p, seqV u q, seqV x y] W fun e W' => e = .returned (.bool true) ∧ Below W.heap.size W W' := by
  have hbx := box_seq
  have hh := heap_three W (.cells #[.int .i64 t, .int .i64 p] 45) (.cells #[.int .i64 u, .int .i64 q] 45) (.cells #[.int .i64 x, .int .i64 y] 45)
  have hE0 : Ext W (((W.alloc (.cells #[.int .i64 t, .int .i64 p] 45)).alloc (.cells #[.int .i64 u, .int .i64 q] 45)).alloc (.cells #[.int .i64 x, .int .i64 y] 45)) := ((Ext.alloc _ _).trans (Ext.alloc _ _)).trans (Ext.alloc _ _)
  have HA := Lib.hid hh.1
  have HB := Lib.hid hh.2.1
  have HC := Lib.hid hh.2.2
  clear hh
  have HS := Lib.hid (less_self t p)
  cases hX : Rec.less t p u q with
  | true =>
    have hY := less_not hX
    have hZ := fun h => less_trans (x := x) (y := y) hX h
    have HX := Lib.hid hX
    have HY := Lib.hid hY
    have HZ := Lib.hid hZ
    clear hX hY hZ
    unfold seqV
    go_enter Try.func8, Try.ntmps8
    go_wp2_with fail
    generalize hw0 : (((W.alloc (.cells #[.int .i64 t, .int .i64 p] 45)).alloc (.cells #[.int .i64 u, .int .i64 q] 45)).alloc (.cells #[.int .i64 x, .int .i64 y] 45)) = w0 at *
    clear hw0
    generalize W.heap.size = h0 at *
    refine wp_region_facts (by kernel_rfl) Ext (fun iop v w => match iop with
        | 0 => v = .agg #[.int .i64 t, .int .i64 p]
        | 1 => v = .agg #[.int .i64 u, .int .i64 q]
        | 2 => v = .bool true
        | 3 => v = .agg #[.int .i64 t, .int .i64 p]
        | 4 => v = .agg #[.int .i64 u, .int .i64 q]
        | 5 => v = .bool true
        | 6 => v = .bool false
        | 7 => v = .bool false
        | 8 => v = .agg #[.int .i64 t, .int .i64 p]
        | 9 => v = .agg #[.int .i64 u, .int .i64 q]
        | 10 => v = .bool true
        | 11 => v = .bool true
        | 12 => v = .agg #[.int .i64 u, .int .i64 q]
        | 13 => v = .agg #[.int .i64 t, .int .i64 p]
        | 14 => v = .bool false
        | 15 => v = .bool false
        | 16 => v = .bool false
        | 17 => v = .bool false
        | 18 => v = .agg #[.int .i64 t, .int .i64 p]
        | 19 => v = .agg #[.int .i64 u, .int .i64 q]
        | 20 => v = .bool true
        | 21 => v = .bool false
        | 22 => v = .bool false
        | 23 => v = undef
        | 24 => v = undef
        | 25 => v = undef
        | 26 => v = undef
        | 27 => v = .bool false
        | 28 => v = .bool false
        | 29 => v = undef
        | 30 => v = undef
        | 31 => v = undef
        | 32 => v = .bool false
        | _ => v = .bool false
        ) (by kernel_rfl) (fun _ _ _ h k => Ext.trans h k) (fun a => Ext.refl a) (Ext.drew _) ?_ ?_ ?_
    · intro iop v wa wb hF hL
      cases iop with
      | zero => exact hF
      | succ iop =>
        cases iop with
        | zero => exact hF
        | succ iop =>
          cases iop with
          | zero => exact hF
          | succ iop =>
            cases iop with
            | zero => exact hF
            | succ iop =>
              cases iop with
              | zero => exact hF
              | succ iop =>
                cases iop with
                | zero => exact hF
                | succ iop =>
                  cases iop with
                  | zero => exact hF
                  | succ iop =>
                    cases iop with
                    | zero => exact hF
                    | succ iop =>
                      cases iop with
                      | zero => exact hF
                      | succ iop =>
                        cases iop with
                        | zero => exact hF
                        | succ iop =>
                          cases iop with
                          | zero => exact hF
                          | succ iop =>
                            cases iop with
                            | zero => exact hF
                            | succ iop =>
                              cases iop with
                              | zero => exact hF
                              | succ iop =>
                                cases iop with
                                | zero => exact hF
                                | succ iop =>
                                  cases iop with
                                  | zero => exact hF
                                  | succ iop =>
                                    cases iop with
                                    | zero => exact hF
                                    | succ iop =>
                                      cases iop with
                                      | zero => exact hF
                                      | succ iop =>
                                        cases iop with
                                        | zero => exact hF
                                        | succ iop =>
                                          cases iop with
                                          | zero => exact hF
                                          | succ iop =>
                                            cases iop with
                                            | zero => exact hF
                                            | succ iop =>
                                              cases iop with
                                              | zero => exact hF
                                              | succ iop =>
                                                cases iop with
                                                | zero => exact hF
                                                | succ iop =>
                                                  cases iop with
                                                  | zero => exact hF
                                                  | succ iop =>
                                                    cases iop with
                                                    | zero => exact hF
                                                    | succ iop =>
                                                      cases iop with
                                                      | zero => exact hF
                                                      | succ iop =>
                                                        cases iop with
                                                        | zero => exact hF
                                                        | succ iop =>
                                                          cases iop with
                                                          | zero => exact hF
                                                          | succ iop =>
                                                            cases iop with
                                                            | zero => exact hF
                                                            | succ iop =>
                                                              cases iop with
                                                              | zero => exact hF
                                                              | succ iop =>
                                                                cases iop with
                                                                | zero => exact hF
                                                                | succ iop =>
                                                                  cases iop with
                                                                  | zero => exact hF
                                                                  | succ iop =>
                                                                    cases iop with
                                                                    | zero => exact hF
                                                                    | succ iop =>
                                                                      cases iop with
                                                                      | zero => exact hF
                                                                      | succ iop =>
                                                                        exact hF
    · refine Obls.cons ?_ (Obls.cons ?_ (Obls.cons ?_ (Obls.cons ?_ (Obls.cons ?_ (Obls.cons ?_ (Obls.cons ?_ (Obls.cons ?_ (Obls.cons ?_ (Obls.cons ?_ (Obls.cons ?_ (Obls.cons ?_ (Obls.cons ?_ (Obls.cons ?_ (Obls.cons ?_ (Obls.cons ?_ (Obls.cons ?_ (Obls.cons ?_ (Obls.cons ?_ (Obls.cons ?_ (Obls.cons ?_ (Obls.cons ?_ (Obls.cons ?_ (Obls.cons ?_ (Obls.cons ?_ (Obls.cons ?_ (Obls.cons ?_ (Obls.cons ?_ (Obls.cons ?_ (Obls.cons ?_ (Obls.cons ?_ (Obls.cons ?_ (Obls.cons ?_ (Obls.cons ?_ (Obls.nil))))))))))))))))))))))))))))))))))
      · intro ev wy hp hl hk hd
        have e3 : ev (.tmp 3) = .pointer (some ⟨h0, 0, none⟩) := hk 3 (by decide)
        clear hk
        clear hd
        exact Yield.ld rfl e3 (ld_seq (heap_ext HA.out hl)) ⟨Ext.refl _, rfl⟩
      · intro ev wy hp hl hk hd
        have e4 : ev (.tmp 4) = .pointer (some ⟨h0 + 1, 0, none⟩) := hk 4 (by decide)
        clear hk
        clear hd
        exact Yield.ld rfl e4 (ld_seq (heap_ext HB.out hl)) ⟨Ext.refl _, rfl⟩
      · intro ev wy hp hl hk hd
        have e7 : ev (.tmp 7) = .agg #[.int .i64 t, .int .i64 p] := hk 7 (by decide)
        have e8 : ev (.tmp 8) = .agg #[.int .i64 u, .int .i64 q] := hk 8 (by decide)
        clear hk
        clear hd
        refine Yield.call rfl hp Try.func25 rfl (by kernel_rfl) ?_
        simp only [List.map_toArray, List.map_cons, List.map_nil, e7, e8]
        exact ((HX.out ▸ less4_any t p u q wy)).mono fun _ _ ⟨he, hb⟩ => ⟨_, he, hb, by first | rfl | simp⟩
      · intro ev wy hp hl hk hd
        have e3 : ev (.tmp 3) = .pointer (some ⟨h0, 0, none⟩) := hk 3 (by decide)
        clear hk
        clear hd
        exact Yield.ld rfl e3 (ld_seq (heap_ext HA.out hl)) ⟨Ext.refl _, rfl⟩
      · intro ev wy hp hl hk hd
        have e4 : ev (.tmp 4) = .pointer (some ⟨h0 + 1, 0, none⟩) := hk 4 (by decide)
        clear hk
        clear hd
        exact Yield.ld rfl e4 (ld_seq (heap_ext HB.out hl)) ⟨Ext.refl _, rfl⟩
      · intro ev wy hp hl hk hd
        have e10 : ev (.tmp 10) = .agg #[.int .i64 t, .int .i64 p] := hk 10 (by decide)
        have e11 : ev (.tmp 11) = .agg #[.int .i64 u, .int .i64 q] := hk 11 (by decide)
        clear hk
        clear hd
        refine Yield.call rfl hp Try.func26 rfl (by kernel_rfl) ?_
        simp only [List.map_toArray, List.map_cons, List.map_nil, e10, e11]
        exact ((HX.out ▸ refLess4_any t p u q wy)).mono fun _ _ ⟨he, hb⟩ => ⟨_, he, hb, by first | rfl | simp⟩
      · intro ev wy hp hl hk hd
        have e9 : ev (.tmp 9) = .bool true := hk 9 (by decide)
        have e12 : ev (.tmp 12) = .bool true := hk 12 (by decide)
        clear hk
        clear hd
        exact Yield.op (v := .bool false) (w' := wy) (by simp [execOp, go_sem, e9, e12]) ⟨Ext.refl _, rfl⟩
      · intro ev wy hp hl hk hd
        have e13 : ev (.tmp 13) = .bool false := hk 13 (by decide)
        clear hk
        clear hd
        exact Yield.mv rfl ⟨Ext.refl _, e13⟩
      · intro ev wy hp hl hk hd
        have e3 : ev (.tmp 3) = .pointer (some ⟨h0, 0, none⟩) := hk 3 (by decide)
        clear hk
        refine ⟨fun _ _ _ => ?_, fun _ hx hne => absurd hx hne⟩
        clear hd
        exact Yield.ld rfl e3 (ld_seq (heap_ext HA.out hl)) ⟨Ext.refl _, rfl⟩
      · intro ev wy hp hl hk hd
        have e4 : ev (.tmp 4) = .pointer (some ⟨h0 + 1, 0, none⟩) := hk 4 (by decide)
        clear hk
        refine ⟨fun _ _ _ => ?_, fun _ hx hne => absurd hx hne⟩
        clear hd
        exact Yield.ld rfl e4 (ld_seq (heap_ext HB.out hl)) ⟨Ext.refl _, rfl⟩
      · intro ev wy hp hl hk hd
        have e15 : ev (.tmp 15) = .agg #[.int .i64 t, .int .i64 p] := hk 15 (by decide)
        have e16 : ev (.tmp 16) = .agg #[.int .i64 u, .int .i64 q] := hk 16 (by decide)
        clear hk
        refine ⟨fun _ _ _ => ?_, fun _ hx hne => absurd hx hne⟩
        clear hd
        refine Yield.call rfl hp Try.func25 rfl (by kernel_rfl) ?_
        simp only [List.map_toArray, List.map_cons, List.map_nil, e15, e16]
        exact ((HX.out ▸ less4_any t p u q wy)).mono fun _ _ ⟨he, hb⟩ => ⟨_, he, hb, by first | rfl | simp⟩
      · intro ev wy hp hl hk hd
        have e17 : ev (.tmp 17) = .bool true := hk 17 (by decide)
        clear hk
        refine ⟨fun _ _ _ => ?_, fun _ hx hne => absurd hx hne⟩
        clear hd
        exact Yield.mv rfl ⟨Ext.refl _, e17⟩
      · intro ev wy hp hl hk hd
        have e4 : ev (.tmp 4) = .pointer (some ⟨h0 + 1, 0, none⟩) := hk 4 (by decide)
        clear hk
        refine ⟨fun _ _ _ => ?_, fun _ hx hne => absurd hx hne⟩
        clear hd
        exact Yield.ld rfl e4 (ld_seq (heap_ext HB.out hl)) ⟨Ext.refl _, rfl⟩
      · intro ev wy hp hl hk hd
        have e3 : ev (.tmp 3) = .pointer (some ⟨h0, 0, none⟩) := hk 3 (by decide)
        clear hk
        refine ⟨fun _ _ _ => ?_, fun _ hx hne => absurd hx hne⟩
        clear hd
        exact Yield.ld rfl e3 (ld_seq (heap_ext HA.out hl)) ⟨Ext.refl _, rfl⟩
      · intro ev wy hp hl hk hd
        have e19 : ev (.tmp 19) = .agg #[.int .i64 u, .int .i64 q] := hk 19 (by decide)
        have e20 : ev (.tmp 20) = .agg #[.int .i64 t, .int .i64 p] := hk 20 (by decide)
        clear hk
        refine ⟨fun _ _ _ => ?_, fun _ hx hne => absurd hx hne⟩
        clear hd
        refine Yield.call rfl hp Try.func25 rfl (by kernel_rfl) ?_
        simp only [List.map_toArray, List.map_cons, List.map_nil, e19, e20]
        exact ((HY.out ▸ less4_any u q t p wy)).mono fun _ _ ⟨he, hb⟩ => ⟨_, he, hb, by first | rfl | simp⟩
      · intro ev wy hp hl hk hd
        have e18 : ev (.tmp 18) = .bool true := hk 18 (by decide)
        have e21 : ev (.tmp 21) = .bool false := hk 21 (by decide)
        clear hk
        refine ⟨fun _ _ _ => ?_, fun _ hx hne => absurd hx hne⟩
        clear hd
        exact Yield.pick (t := true) rfl e18 ⟨Ext.refl _, e21⟩
      · intro ev wy hp hl hk hd
        have e14 : ev (.tmp 14) = .bool false := hk 14 (by decide)
        have e22 : ev (.tmp 22) = .bool false := hk 22 (by decide)
        clear hk
        clear hd
        exact Yield.pick (t := false) rfl e14 ⟨Ext.refl _, e22⟩
      · intro ev wy hp hl hk hd
        have e23 : ev (.tmp 23) = .bool false := hk 23 (by decide)
        clear hk
        clear hd
        exact Yield.mv rfl ⟨Ext.refl _, e23⟩
      · intro ev wy hp hl hk hd
        have e3 : ev (.tmp 3) = .pointer (some ⟨h0, 0, none⟩) := hk 3 (by decide)
        clear hk
        refine ⟨fun _ _ _ => ?_, fun _ hx hne => absurd hx hne⟩
        clear hd
        exact Yield.ld rfl e3 (ld_seq (heap_ext HA.out hl)) ⟨Ext.refl _, rfl⟩
      · intro ev wy hp hl hk hd
        have e4 : ev (.tmp 4) = .pointer (some ⟨h0 + 1, 0, none⟩) := hk 4 (by decide)
        clear hk
        refine ⟨fun _ _ _ => ?_, fun _ hx hne => absurd hx hne⟩
        clear hd
        exact Yield.ld rfl e4 (ld_seq (heap_ext HB.out hl)) ⟨Ext.refl _, rfl⟩
      · intro ev wy hp hl hk hd
        have e25 : ev (.tmp 25) = .agg #[.int .i64 t, .int .i64 p] := hk 25 (by decide)
        have e26 : ev (.tmp 26) = .agg #[.int .i64 u, .int .i64 q] := hk 26 (by decide)
        clear hk
        refine ⟨fun _ _ _ => ?_, fun _ hx hne => absurd hx hne⟩
        clear hd
        refine Yield.call rfl hp Try.func25 rfl (by kernel_rfl) ?_
        simp only [List.map_toArray, List.map_cons, List.map_nil, e25, e26]
        exact ((HX.out ▸ less4_any t p u q wy)).mono fun _ _ ⟨he, hb⟩ => ⟨_, he, hb, by first | rfl | simp⟩
      · intro ev wy hp hl hk hd
        have e27 : ev (.tmp 27) = .bool true := hk 27 (by decide)
        clear hk
        refine ⟨fun _ _ _ => ?_, fun _ hx hne => absurd hx hne⟩
        clear hd
        exact Yield.op (v := .bool false) (w' := wy) (by simp [execOp, go_sem, e27]) ⟨Ext.refl _, rfl⟩
      · intro ev wy hp hl hk hd
        have e28 : ev (.tmp 28) = .bool false := hk 28 (by decide)
        clear hk
        refine ⟨fun _ _ _ => ?_, fun _ hx hne => absurd hx hne⟩
        clear hd
        exact Yield.mv rfl ⟨Ext.refl _, e28⟩
      · intro ev wy hp hl hk hd
        have e4 : ev (.tmp 4) = .pointer (some ⟨h0 + 1, 0, none⟩) := hk 4 (by decide)
        clear hk
        exact ⟨fun x hx he => (by rw [show x = .bool false from hx] at he; cases he), fun _ _ _ => rfl⟩
      · intro ev wy hp hl hk hd
        have e3 : ev (.tmp 3) = .pointer (some ⟨h0, 0, none⟩) := hk 3 (by decide)
        clear hk
        exact ⟨fun x hx he => (by rw [show x = .bool false from hx] at he; cases he), fun _ _ _ => rfl⟩
      · intro ev wy hp hl hk hd
        have e30 : ev (.tmp 30) = undef := hk 30 (by decide)
        have e31 : ev (.tmp 31) = undef := hk 31 (by decide)
        clear hk
        exact ⟨fun x hx he => (by rw [show x = .bool false from hx] at he; cases he), fun _ _ _ => rfl⟩
      · intro ev wy hp hl hk hd
        have e32 : ev (.tmp 32) = undef := hk 32 (by decide)
        clear hk
        exact ⟨fun x hx he => (by rw [show x = .bool false from hx] at he; cases he), fun _ _ _ => rfl⟩
      · intro ev wy hp hl hk hd
        have e29 : ev (.tmp 29) = .bool false := hk 29 (by decide)
        have e33 : ev (.tmp 33) = undef := hk 33 (by decide)
        clear hk
        refine ⟨fun _ _ _ => ?_, fun _ hx hne => absurd hx hne⟩
        clear hd
        exact Yield.pick (t := false) rfl e29 ⟨Ext.refl _, hp.const _⟩
      · intro ev wy hp hl hk hd
        have e34 : ev (.tmp 34) = .bool false := hk 34 (by decide)
        clear hk
        refine ⟨fun _ _ _ => ?_, fun _ hx hne => absurd hx hne⟩
        clear hd
        exact Yield.mv rfl ⟨Ext.refl _, e34⟩
      · intro ev wy hp hl hk hd
        have e3 : ev (.tmp 3) = .pointer (some ⟨h0, 0, none⟩) := hk 3 (by decide)
        clear hk
        exact ⟨fun x hx he => (by rw [show x = .bool false from hx] at he; cases he), fun _ _ _ => rfl⟩
      · intro ev wy hp hl hk hd
        have e4 : ev (.tmp 4) = .pointer (some ⟨h0 + 1, 0, none⟩) := hk 4 (by decide)
        clear hk
        exact ⟨fun x hx he => (by rw [show x = .bool false from hx] at he; cases he), fun _ _ _ => rfl⟩
      · intro ev wy hp hl hk hd
        have e36 : ev (.tmp 36) = undef := hk 36 (by decide)
        have e37 : ev (.tmp 37) = undef := hk 37 (by decide)
        clear hk
        exact ⟨fun x hx he => (by rw [show x = .bool false from hx] at he; cases he), fun _ _ _ => rfl⟩
      · intro ev wy hp hl hk hd
        have e35 : ev (.tmp 35) = .bool false := hk 35 (by decide)
        have e38 : ev (.tmp 38) = undef := hk 38 (by decide)
        clear hk
        refine ⟨fun _ _ _ => ?_, fun _ hx hne => absurd hx hne⟩
        clear hd
        exact Yield.pick (t := false) rfl e35 ⟨Ext.refl _, hp.const _⟩
      · intro ev wy hp hl hk hd
        have e24 : ev (.tmp 24) = .bool false := hk 24 (by decide)
        have e39 : ev (.tmp 39) = .bool false := hk 39 (by decide)
        clear hk
        clear hd
        exact Yield.pick (t := false) rfl e24 ⟨Ext.refl _, e39⟩
    · intro vals wz hz hv
      have g7 : vals 0 = .agg #[.int .i64 t, .int .i64 p] := hv 0 (by decide)
      have g8 : vals 1 = .agg #[.int .i64 u, .int .i64 q] := hv 1 (by decide)
      have g9 : vals 2 = .bool true := hv 2 (by decide)
      have g10 : vals 3 = .agg #[.int .i64 t, .int .i64 p] := hv 3 (by decide)
      have g11 : vals 4 = .agg #[.int .i64 u, .int .i64 q] := hv 4 (by decide)
      have g12 : vals 5 = .bool true := hv 5 (by decide)
      have g13 : vals 6 = .bool false := hv 6 (by decide)
      have g14 : vals 7 = .bool false := hv 7 (by decide)
      have g15 : vals 8 = .agg #[.int .i64 t, .int .i64 p] := hv 8 (by decide)
      have g16 : vals 9 = .agg #[.int .i64 u, .int .i64 q] := hv 9 (by decide)
      have g17 : vals 10 = .bool true := hv 10 (by decide)
      have g18 : vals 11 = .bool true := hv 11 (by decide)
      have g19 : vals 12 = .agg #[.int .i64 u, .int .i64 q] := hv 12 (by decide)
      have g20 : vals 13 = .agg #[.int .i64 t, .int .i64 p] := hv 13 (by decide)
      have g21 : vals 14 = .bool false := hv 14 (by decide)
      have g22 : vals 15 = .bool false := hv 15 (by decide)
      have g23 : vals 16 = .bool false := hv 16 (by decide)
      have g24 : vals 17 = .bool false := hv 17 (by decide)
      have g25 : vals 18 = .agg #[.int .i64 t, .int .i64 p] := hv 18 (by decide)
      have g26 : vals 19 = .agg #[.int .i64 u, .int .i64 q] := hv 19 (by decide)
      have g27 : vals 20 = .bool true := hv 20 (by decide)
      have g28 : vals 21 = .bool false := hv 21 (by decide)
      have g29 : vals 22 = .bool false := hv 22 (by decide)
      have g30 : vals 23 = undef := hv 23 (by decide)
      have g31 : vals 24 = undef := hv 24 (by decide)
      have g32 : vals 25 = undef := hv 25 (by decide)
      have g33 : vals 26 = undef := hv 26 (by decide)
      have g34 : vals 27 = .bool false := hv 27 (by decide)
      have g35 : vals 28 = .bool false := hv 28 (by decide)
      have g36 : vals 29 = undef := hv 29 (by decide)
      have g37 : vals 30 = undef := hv 30 (by decide)
      have g38 : vals 31 = undef := hv 31 (by decide)
      have g39 : vals 32 = .bool false := hv 32 (by decide)
      have g40 : vals 33 = .bool false := hv 33 (by decide)
      clear hv
      simp only [putAll, Act.put, List.setIfInBounds_toArray, List.set_cons_zero, List.set_cons_succ, g7, g8, g9, g10, g11, g12, g13, g14, g15, g16, g17, g18, g19, g20, g21, g22, g23, g24, g25, g26, g27, g28, g29, g30, g31, g32, g33, g34, g35, g36, g37, g38, g39, g40]
      clear g7
      clear g8
      clear g9
      clear g10
      clear g11
      clear g12
      clear g13
      clear g14
      clear g15
      clear g16
      clear g17
      clear g18
      clear g19
      clear g20
      clear g21
      clear g22
      clear g23
      clear g24
      clear g25
      clear g26
      clear g27
      clear g28
      clear g29
      clear g30
      clear g31
      clear g32
      clear g33
      clear g34
      clear g35
      clear g36
      clear g37
      clear g38
      clear g39
      clear g40
      obtain ⟨a0, a1⟩ := cells2 (heap_ext HA.out hz)
      obtain ⟨b0, b1⟩ := cells2 (heap_ext HB.out hz)
      obtain ⟨c0, c1⟩ := cells2 (heap_ext HC.out hz)
      go_wp2_with fail
      refine (recAlive_any _).mono ?_
      rintro e w1 ⟨rfl, hE1⟩
      clear a0 a1 b0 b1 c0 c1
      obtain ⟨a0, a1⟩ := cells2 (heap_ext HA.out (hz.trans hE1))
      obtain ⟨b0, b1⟩ := cells2 (heap_ext HB.out (hz.trans hE1))
      obtain ⟨c0, c1⟩ := cells2 (heap_ext HC.out (hz.trans hE1))
      go_wp2_with fail
      refine (less4_any t p t p _).mono ?_
      rw [HS.out]
      rintro e w2 ⟨rfl, hE2⟩
      clear a0 a1 b0 b1 c0 c1
      obtain ⟨a0, a1⟩ := cells2 (heap_ext HA.out ((hz.trans hE1).trans hE2))
      obtain ⟨b0, b1⟩ := cells2 (heap_ext HB.out ((hz.trans hE1).trans hE2))
      obtain ⟨c0, c1⟩ := cells2 (heap_ext HC.out ((hz.trans hE1).trans hE2))
      go_wp2_with fail
      refine (less4_any t p u q _).mono ?_
      rw [HX.out]
      rintro e w3 ⟨rfl, hE3⟩
      clear a0 a1 b0 b1 c0 c1
      obtain ⟨a0, a1⟩ := cells2 (heap_ext HA.out (((hz.trans hE1).trans hE2).trans hE3))
      obtain ⟨b0, b1⟩ := cells2 (heap_ext HB.out (((hz.trans hE1).trans hE2).trans hE3))
      obtain ⟨c0, c1⟩ := cells2 (heap_ext HC.out (((hz.trans hE1).trans hE2).trans hE3))
      cases hq : Rec.less u q x y with
      | false =>
        have HQ := Lib.hid hq
        clear hq
        go_wp2_with fail
        refine (less4_any u q x y _).mono ?_
        rw [HQ.out]
        rintro e w4 ⟨rfl, hE4⟩
        go_wp2_with fail
        go_ret
        exact ⟨rfl, hE0.trans ((((hz.trans hE1).trans hE2).trans hE3).trans hE4)⟩
      | true =>
        have HQ := Lib.hid hq
        clear hq
        go_wp2_with fail
        refine (less4_any u q x y _).mono ?_
        rw [HQ.out]
        rintro e w4 ⟨rfl, hE4⟩
        clear a0 a1 b0 b1 c0 c1
        obtain ⟨a0, a1⟩ := cells2 (heap_ext HA.out ((((hz.trans hE1).trans hE2).trans hE3).trans hE4))
        obtain ⟨b0, b1⟩ := cells2 (heap_ext HB.out ((((hz.trans hE1).trans hE2).trans hE3).trans hE4))
        obtain ⟨c0, c1⟩ := cells2 (heap_ext HC.out ((((hz.trans hE1).trans hE2).trans hE3).trans hE4))
        go_wp2_with fail
        refine (less4_any t p x y _).mono ?_
        rw [HZ.out HQ.out]
        rintro e w5 ⟨rfl, hE5⟩
        go_wp2_with fail
        go_ret
        exact ⟨rfl, hE0.trans (((((hz.trans hE1).trans hE2).trans hE3).trans hE4).trans hE5)⟩
  | false =>
    have HX := Lib.hid hX
    cases hY : Rec.less u q t p with
    | true =>
      have HY := Lib.hid hY
      clear hX hY
      unfold seqV
      go_enter Try.func8, Try.ntmps8
      go_wp2_with fail
      generalize hw0 : (((W.alloc (.cells #[.int .i64 t, .int .i64 p] 45)).alloc (.cells #[.int .i64 u, .int .i64 q] 45)).alloc (.cells #[.int .i64 x, .int .i64 y] 45)) = w0 at *
      clear hw0
      generalize W.heap.size = h0 at *
      refine wp_region_facts (by kernel_rfl) Ext (fun iop v w => match iop with
          | 0 => v = .agg #[.int .i64 t, .int .i64 p]
          | 1 => v = .agg #[.int .i64 u, .int .i64 q]
          | 2 => v = .bool false
          | 3 => v = .agg #[.int .i64 t, .int .i64 p]
          | 4 => v = .agg #[.int .i64 u, .int .i64 q]
          | 5 => v = .bool false
          | 6 => v = .bool false
          | 7 => v = .bool false
          | 8 => v = .agg #[.int .i64 t, .int .i64 p]
          | 9 => v = .agg #[.int .i64 u, .int .i64 q]
          | 10 => v = .bool false
          | 11 => v = .bool false
          | 12 => v = undef
          | 13 => v = undef
          | 14 => v = undef
          | 15 => v = .bool false
          | 16 => v = .bool false
          | 17 => v = .bool false
          | 18 => v = .agg #[.int .i64 t, .int .i64 p]
          | 19 => v = .agg #[.int .i64 u, .int .i64 q]
          | 20 => v = .bool false
          | 21 => v = .bool true
          | 22 => v = .bool true
          | 23 => v = .agg #[.int .i64 u, .int .i64 q]
          | 24 => v = .agg #[.int .i64 t, .int .i64 p]
          | 25 => v = .bool true
          | 26 => v = .bool false
          | 27 => v = .bool false
          | 28 => v = .bool false
          | 29 => v = undef
          | 30 => v = undef
          | 31 => v = undef
          | 32 => v = .bool false
          | _ => v = .bool false
          ) (by kernel_rfl) (fun _ _ _ h k => Ext.trans h k) (fun a => Ext.refl a) (Ext.drew _) ?_ ?_ ?_
      · intro iop v wa wb hF hL
        cases iop with
        | zero => exact hF
        | succ iop =>
          cases iop with
          | zero => exact hF
          | succ iop =>
            cases iop with
            | zero => exact hF
            | succ iop =>
              cases iop with
              | zero => exact hF
              | succ iop =>
                cases iop with
                | zero => exact hF
                | succ iop =>
                  cases iop with
                  | zero => exact hF
                  | succ iop =>
                    cases iop with
                    | zero => exact hF
                    | succ iop =>
                      cases iop with
                      | zero => exact hF
                      | succ iop =>
                        cases iop with
                        | zero => exact hF
                        | succ iop =>
                          cases iop with
                          | zero => exact hF
                          | succ iop =>
                            cases iop with
                            | zero => exact hF
                            | succ iop =>
                              cases iop with
                              | zero => exact hF
                              | succ iop =>
                                cases iop with
                                | zero => exact hF
                                | succ iop =>
                                  cases iop with
                                  | zero => exact hF
                                  | succ iop =>
                                    cases iop with
                                    | zero => exact hF
                                    | succ iop =>
                                      cases iop with
                                      | zero => exact hF
                                      | succ iop =>
                                        cases iop with
                                        | zero => exact hF
                                        | succ iop =>
                                          cases iop with
                                          | zero => exact hF
                                          | succ iop =>
                                            cases iop with
                                            | zero => exact hF
                                            | succ iop =>
                                              cases iop with
                                              | zero => exact hF
                                              | succ iop =>
                                                cases iop with
                                                | zero => exact hF
                                                | succ iop =>
                                                  cases iop with
                                                  | zero => exact hF
                                                  | succ iop =>
                                                    cases iop with
                                                    | zero => exact hF
                                                    | succ iop =>
                                                      cases iop with
                                                      | zero => exact hF
                                                      | succ iop =>
                                                        cases iop with
                                                        | zero => exact hF
                                                        | succ iop =>
                                                          cases iop with
                                                          | zero => exact hF
                                                          | succ iop =>
                                                            cases iop with
                                                            | zero => exact hF
                                                            | succ iop =>
                                                              cases iop with
                                                              | zero => exact hF
                                                              | succ iop =>
                                                                cases iop with
                                                                | zero => exact hF
                                                                | succ iop =>
                                                                  cases iop with
                                                                  | zero => exact hF
                                                                  | succ iop =>
                                                                    cases iop with
                                                                    | zero => exact hF
                                                                    | succ iop =>
                                                                      cases iop with
                                                                      | zero => exact hF
                                                                      | succ iop =>
                                                                        cases iop with
                                                                        | zero => exact hF
                                                                        | succ iop =>
                                                                          exact hF
      · refine Obls.cons ?_ (Obls.cons ?_ (Obls.cons ?_ (Obls.cons ?_ (Obls.cons ?_ (Obls.cons ?_ (Obls.cons ?_ (Obls.cons ?_ (Obls.cons ?_ (Obls.cons ?_ (Obls.cons ?_ (Obls.cons ?_ (Obls.cons ?_ (Obls.cons ?_ (Obls.cons ?_ (Obls.cons ?_ (Obls.cons ?_ (Obls.cons ?_ (Obls.cons ?_ (Obls.cons ?_ (Obls.cons ?_ (Obls.cons ?_ (Obls.cons ?_ (Obls.cons ?_ (Obls.cons ?_ (Obls.cons ?_ (Obls.cons ?_ (Obls.cons ?_ (Obls.cons ?_ (Obls.cons ?_ (Obls.cons ?_ (Obls.cons ?_ (Obls.cons ?_ (Obls.cons ?_ (Obls.nil))))))))))))))))))))))))))))))))))
        · intro ev wy hp hl hk hd
          have e3 : ev (.tmp 3) = .pointer (some ⟨h0, 0, none⟩) := hk 3 (by decide)
          clear hk
          clear hd
          exact Yield.ld rfl e3 (ld_seq (heap_ext HA.out hl)) ⟨Ext.refl _, rfl⟩
        · intro ev wy hp hl hk hd
          have e4 : ev (.tmp 4) = .pointer (some ⟨h0 + 1, 0, none⟩) := hk 4 (by decide)
          clear hk
          clear hd
          exact Yield.ld rfl e4 (ld_seq (heap_ext HB.out hl)) ⟨Ext.refl _, rfl⟩
        · intro ev wy hp hl hk hd
          have e7 : ev (.tmp 7) = .agg #[.int .i64 t, .int .i64 p] := hk 7 (by decide)
          have e8 : ev (.tmp 8) = .agg #[.int .i64 u, .int .i64 q] := hk 8 (by decide)
          clear hk
          clear hd
          refine Yield.call rfl hp Try.func25 rfl (by kernel_rfl) ?_
          simp only [List.map_toArray, List.map_cons, List.map_nil, e7, e8]
          exact ((HX.out ▸ less4_any t p u q wy)).mono fun _ _ ⟨he, hb⟩ => ⟨_, he, hb, by first | rfl | simp⟩
        · intro ev wy hp hl hk hd
          have e3 : ev (.tmp 3) = .pointer (some ⟨h0, 0, none⟩) := hk 3 (by decide)
          clear hk
          clear hd
          exact Yield.ld rfl e3 (ld_seq (heap_ext HA.out hl)) ⟨Ext.refl _, rfl⟩
        · intro ev wy hp hl hk hd
          have e4 : ev (.tmp 4) = .pointer (some ⟨h0 + 1, 0, none⟩) := hk 4 (by decide)
          clear hk
          clear hd
          exact Yield.ld rfl e4 (ld_seq (heap_ext HB.out hl)) ⟨Ext.refl _, rfl⟩
        · intro ev wy hp hl hk hd
          have e10 : ev (.tmp 10) = .agg #[.int .i64 t, .int .i64 p] := hk 10 (by decide)
          have e11 : ev (.tmp 11) = .agg #[.int .i64 u, .int .i64 q] := hk 11 (by decide)
          clear hk
          clear hd
          refine Yield.call rfl hp Try.func26 rfl (by kernel_rfl) ?_
          simp only [List.map_toArray, List.map_cons, List.map_nil, e10, e11]
          exact ((HX.out ▸ refLess4_any t p u q wy)).mono fun _ _ ⟨he, hb⟩ => ⟨_, he, hb, by first | rfl | simp⟩
        · intro ev wy hp hl hk hd
          have e9 : ev (.tmp 9) = .bool false := hk 9 (by decide)
          have e12 : ev (.tmp 12) = .bool false := hk 12 (by decide)
          clear hk
          clear hd
          exact Yield.op (v := .bool false) (w' := wy) (by simp [execOp, go_sem, e9, e12]) ⟨Ext.refl _, rfl⟩
        · intro ev wy hp hl hk hd
          have e13 : ev (.tmp 13) = .bool false := hk 13 (by decide)
          clear hk
          clear hd
          exact Yield.mv rfl ⟨Ext.refl _, e13⟩
        · intro ev wy hp hl hk hd
          have e3 : ev (.tmp 3) = .pointer (some ⟨h0, 0, none⟩) := hk 3 (by decide)
          clear hk
          refine ⟨fun _ _ _ => ?_, fun _ hx hne => absurd hx hne⟩
          clear hd
          exact Yield.ld rfl e3 (ld_seq (heap_ext HA.out hl)) ⟨Ext.refl _, rfl⟩
        · intro ev wy hp hl hk hd
          have e4 : ev (.tmp 4) = .pointer (some ⟨h0 + 1, 0, none⟩) := hk 4 (by decide)
          clear hk
          refine ⟨fun _ _ _ => ?_, fun _ hx hne => absurd hx hne⟩
          clear hd
          exact Yield.ld rfl e4 (ld_seq (heap_ext HB.out hl)) ⟨Ext.refl _, rfl⟩
        · intro ev wy hp hl hk hd
          have e15 : ev (.tmp 15) = .agg #[.int .i64 t, .int .i64 p] := hk 15 (by decide)
          have e16 : ev (.tmp 16) = .agg #[.int .i64 u, .int .i64 q] := hk 16 (by decide)
          clear hk
          refine ⟨fun _ _ _ => ?_, fun _ hx hne => absurd hx hne⟩
          clear hd
          refine Yield.call rfl hp Try.func25 rfl (by kernel_rfl) ?_
          simp only [List.map_toArray, List.map_cons, List.map_nil, e15, e16]
          exact ((HX.out ▸ less4_any t p u q wy)).mono fun _ _ ⟨he, hb⟩ => ⟨_, he, hb, by first | rfl | simp⟩
        · intro ev wy hp hl hk hd
          have e17 : ev (.tmp 17) = .bool false := hk 17 (by decide)
          clear hk
          refine ⟨fun _ _ _ => ?_, fun _ hx hne => absurd hx hne⟩
          clear hd
          exact Yield.mv rfl ⟨Ext.refl _, e17⟩
        · intro ev wy hp hl hk hd
          have e4 : ev (.tmp 4) = .pointer (some ⟨h0 + 1, 0, none⟩) := hk 4 (by decide)
          clear hk
          exact ⟨fun x hx he => (by rw [show x = .bool false from hx] at he; cases he), fun _ _ _ => rfl⟩
        · intro ev wy hp hl hk hd
          have e3 : ev (.tmp 3) = .pointer (some ⟨h0, 0, none⟩) := hk 3 (by decide)
          clear hk
          exact ⟨fun x hx he => (by rw [show x = .bool false from hx] at he; cases he), fun _ _ _ => rfl⟩
        · intro ev wy hp hl hk hd
          have e19 : ev (.tmp 19) = undef := hk 19 (by decide)
          have e20 : ev (.tmp 20) = undef := hk 20 (by decide)
          clear hk
          exact ⟨fun x hx he => (by rw [show x = .bool false from hx] at he; cases he), fun _ _ _ => rfl⟩
        · intro ev wy hp hl hk hd
          have e18 : ev (.tmp 18) = .bool false := hk 18 (by decide)
          have e21 : ev (.tmp 21) = undef := hk 21 (by decide)
          clear hk
          refine ⟨fun _ _ _ => ?_, fun _ hx hne => absurd hx hne⟩
          clear hd
          exact Yield.pick (t := false) rfl e18 ⟨Ext.refl _, hp.const _⟩
        · intro ev wy hp hl hk hd
          have e14 : ev (.tmp 14) = .bool false := hk 14 (by decide)
          have e22 : ev (.tmp 22) = .bool false := hk 22 (by decide)
          clear hk
          clear hd
          exact Yield.pick (t := false) rfl e14 ⟨Ext.refl _, e22⟩
        · intro ev wy hp hl hk hd
          have e23 : ev (.tmp 23) = .bool false := hk 23 (by decide)
          clear hk
          clear hd
          exact Yield.mv rfl ⟨Ext.refl _, e23⟩
        · intro ev wy hp hl hk hd
          have e3 : ev (.tmp 3) = .pointer (some ⟨h0, 0, none⟩) := hk 3 (by decide)
          clear hk
          refine ⟨fun _ _ _ => ?_, fun _ hx hne => absurd hx hne⟩
          clear hd
          exact Yield.ld rfl e3 (ld_seq (heap_ext HA.out hl)) ⟨Ext.refl _, rfl⟩
        · intro ev wy hp hl hk hd
          have e4 : ev (.tmp 4) = .pointer (some ⟨h0 + 1, 0, none⟩) := hk 4 (by decide)
          clear hk
          refine ⟨fun _ _ _ => ?_, fun _ hx hne => absurd hx hne⟩
          clear hd
          exact Yield.ld rfl e4 (ld_seq (heap_ext HB.out hl)) ⟨Ext.refl _, rfl⟩
        · intro ev wy hp hl hk hd
          have e25 : ev (.tmp 25) = .agg #[.int .i64 t, .int .i64 p] := hk 25 (by decide)
          have e26 : ev (.tmp 26) = .agg #[.int .i64 u, .int .i64 q] := hk 26 (by decide)
          clear hk
          refine ⟨fun _ _ _ => ?_, fun _ hx hne => absurd hx hne⟩
          clear hd
          refine Yield.call rfl hp Try.func25 rfl (by kernel_rfl) ?_
          simp only [List.map_toArray, List.map_cons, List.map_nil, e25, e26]
          exact ((HX.out ▸ less4_any t p u q wy)).mono fun _ _ ⟨he, hb⟩ => ⟨_, he, hb, by first | rfl | simp⟩
        · intro ev wy hp hl hk hd
          have e27 : ev (.tmp 27) = .bool false := hk 27 (by decide)
          clear hk
          refine ⟨fun _ _ _ => ?_, fun _ hx hne => absurd hx hne⟩
          clear hd
          exact Yield.op (v := .bool true) (w' := wy) (by simp [execOp, go_sem, e27]) ⟨Ext.refl _, rfl⟩
        · intro ev wy hp hl hk hd
          have e28 : ev (.tmp 28) = .bool true := hk 28 (by decide)
          clear hk
          refine ⟨fun _ _ _ => ?_, fun _ hx hne => absurd hx hne⟩
          clear hd
          exact Yield.mv rfl ⟨Ext.refl _, e28⟩
        · intro ev wy hp hl hk hd
          have e4 : ev (.tmp 4) = .pointer (some ⟨h0 + 1, 0, none⟩) := hk 4 (by decide)
          clear hk
          refine ⟨fun _ _ _ => ?_, fun _ hx hne => absurd hx hne⟩
          clear hd
          exact Yield.ld rfl e4 (ld_seq (heap_ext HB.out hl)) ⟨Ext.refl _, rfl⟩
        · intro ev wy hp hl hk hd
          have e3 : ev (.tmp 3) = .pointer (some ⟨h0, 0, none⟩) := hk 3 (by decide)
          clear hk
          refine ⟨fun _ _ _ => ?_, fun _ hx hne => absurd hx hne⟩
          clear hd
          exact Yield.ld rfl e3 (ld_seq (heap_ext HA.out hl)) ⟨Ext.refl _, rfl⟩
        · intro ev wy hp hl hk hd
          have e30 : ev (.tmp 30) = .agg #[.int .i64 u, .int .i64 q] := hk 30 (by decide)
          have e31 : ev (.tmp 31) = .agg #[.int .i64 t, .int .i64 p] := hk 31 (by decide)
          clear hk
          refine ⟨fun _ _ _ => ?_, fun _ hx hne => absurd hx hne⟩
          clear hd
          refine Yield.call rfl hp Try.func25 rfl (by kernel_rfl) ?_
          simp only [List.map_toArray, List.map_cons, List.map_nil, e30, e31]
          exact ((HY.out ▸ less4_any u q t p wy)).mono fun _ _ ⟨he, hb⟩ => ⟨_, he, hb, by first | rfl | simp⟩
        · intro ev wy hp hl hk hd
          have e32 : ev (.tmp 32) = .bool true := hk 32 (by decide)
          clear hk
          refine ⟨fun _ _ _ => ?_, fun _ hx hne => absurd hx hne⟩
          clear hd
          exact Yield.op (v := .bool false) (w' := wy) (by simp [execOp, go_sem, e32]) ⟨Ext.refl _, rfl⟩
        · intro ev wy hp hl hk hd
          have e29 : ev (.tmp 29) = .bool true := hk 29 (by decide)
          have e33 : ev (.tmp 33) = .bool false := hk 33 (by decide)
          clear hk
          refine ⟨fun _ _ _ => ?_, fun _ hx hne => absurd hx hne⟩
          clear hd
          exact Yield.pick (t := true) rfl e29 ⟨Ext.refl _, e33⟩
        · intro ev wy hp hl hk hd
          have e34 : ev (.tmp 34) = .bool false := hk 34 (by decide)
          clear hk
          refine ⟨fun _ _ _ => ?_, fun _ hx hne => absurd hx hne⟩
          clear hd
          exact Yield.mv rfl ⟨Ext.refl _, e34⟩
        · intro ev wy hp hl hk hd
          have e3 : ev (.tmp 3) = .pointer (some ⟨h0, 0, none⟩) := hk 3 (by decide)
          clear hk
          exact ⟨fun x hx he => (by rw [show x = .bool false from hx] at he; cases he), fun _ _ _ => rfl⟩
        · intro ev wy hp hl hk hd
          have e4 : ev (.tmp 4) = .pointer (some ⟨h0 + 1, 0, none⟩) := hk 4 (by decide)
          clear hk
          exact ⟨fun x hx he => (by rw [show x = .bool false from hx] at he; cases he), fun _ _ _ => rfl⟩
        · intro ev wy hp hl hk hd
          have e36 : ev (.tmp 36) = undef := hk 36 (by decide)
          have e37 : ev (.tmp 37) = undef := hk 37 (by decide)
          clear hk
          exact ⟨fun x hx he => (by rw [show x = .bool false from hx] at he; cases he), fun _ _ _ => rfl⟩
        · intro ev wy hp hl hk hd
          have e35 : ev (.tmp 35) = .bool false := hk 35 (by decide)
          have e38 : ev (.tmp 38) = undef := hk 38 (by decide)
          clear hk
          refine ⟨fun _ _ _ => ?_, fun _ hx hne => absurd hx hne⟩
          clear hd
          exact Yield.pick (t := false) rfl e35 ⟨Ext.refl _, hp.const _⟩
        · intro ev wy hp hl hk hd
          have e24 : ev (.tmp 24) = .bool false := hk 24 (by decide)
          have e39 : ev (.tmp 39) = .bool false := hk 39 (by decide)
          clear hk
          clear hd
          exact Yield.pick (t := false) rfl e24 ⟨Ext.refl _, e39⟩
      · intro vals wz hz hv
        have g7 : vals 0 = .agg #[.int .i64 t, .int .i64 p] := hv 0 (by decide)
        have g8 : vals 1 = .agg #[.int .i64 u, .int .i64 q] := hv 1 (by decide)
        have g9 : vals 2 = .bool false := hv 2 (by decide)
        have g10 : vals 3 = .agg #[.int .i64 t, .int .i64 p] := hv 3 (by decide)
        have g11 : vals 4 = .agg #[.int .i64 u, .int .i64 q] := hv 4 (by decide)
        have g12 : vals 5 = .bool false := hv 5 (by decide)
        have g13 : vals 6 = .bool false := hv 6 (by decide)
        have g14 : vals 7 = .bool false := hv 7 (by decide)
        have g15 : vals 8 = .agg #[.int .i64 t, .int .i64 p] := hv 8 (by decide)
        have g16 : vals 9 = .agg #[.int .i64 u, .int .i64 q] := hv 9 (by decide)
        have g17 : vals 10 = .bool false := hv 10 (by decide)
        have g18 : vals 11 = .bool false := hv 11 (by decide)
        have g19 : vals 12 = undef := hv 12 (by decide)
        have g20 : vals 13 = undef := hv 13 (by decide)
        have g21 : vals 14 = undef := hv 14 (by decide)
        have g22 : vals 15 = .bool false := hv 15 (by decide)
        have g23 : vals 16 = .bool false := hv 16 (by decide)
        have g24 : vals 17 = .bool false := hv 17 (by decide)
        have g25 : vals 18 = .agg #[.int .i64 t, .int .i64 p] := hv 18 (by decide)
        have g26 : vals 19 = .agg #[.int .i64 u, .int .i64 q] := hv 19 (by decide)
        have g27 : vals 20 = .bool false := hv 20 (by decide)
        have g28 : vals 21 = .bool true := hv 21 (by decide)
        have g29 : vals 22 = .bool true := hv 22 (by decide)
        have g30 : vals 23 = .agg #[.int .i64 u, .int .i64 q] := hv 23 (by decide)
        have g31 : vals 24 = .agg #[.int .i64 t, .int .i64 p] := hv 24 (by decide)
        have g32 : vals 25 = .bool true := hv 25 (by decide)
        have g33 : vals 26 = .bool false := hv 26 (by decide)
        have g34 : vals 27 = .bool false := hv 27 (by decide)
        have g35 : vals 28 = .bool false := hv 28 (by decide)
        have g36 : vals 29 = undef := hv 29 (by decide)
        have g37 : vals 30 = undef := hv 30 (by decide)
        have g38 : vals 31 = undef := hv 31 (by decide)
        have g39 : vals 32 = .bool false := hv 32 (by decide)
        have g40 : vals 33 = .bool false := hv 33 (by decide)
        clear hv
        simp only [putAll, Act.put, List.setIfInBounds_toArray, List.set_cons_zero, List.set_cons_succ, g7, g8, g9, g10, g11, g12, g13, g14, g15, g16, g17, g18, g19, g20, g21, g22, g23, g24, g25, g26, g27, g28, g29, g30, g31, g32, g33, g34, g35, g36, g37, g38, g39, g40]
        clear g7
        clear g8
        clear g9
        clear g10
        clear g11
        clear g12
        clear g13
        clear g14
        clear g15
        clear g16
        clear g17
        clear g18
        clear g19
        clear g20
        clear g21
        clear g22
        clear g23
        clear g24
        clear g25
        clear g26
        clear g27
        clear g28
        clear g29
        clear g30
        clear g31
        clear g32
        clear g33
        clear g34
        clear g35
        clear g36
        clear g37
        clear g38
        clear g39
        clear g40
        obtain ⟨a0, a1⟩ := cells2 (heap_ext HA.out hz)
        obtain ⟨b0, b1⟩ := cells2 (heap_ext HB.out hz)
        obtain ⟨c0, c1⟩ := cells2 (heap_ext HC.out hz)
        go_wp2_with fail
        refine (recAlive_any _).mono ?_
        rintro e w1 ⟨rfl, hE1⟩
        clear a0 a1 b0 b1 c0 c1
        obtain ⟨a0, a1⟩ := cells2 (heap_ext HA.out (hz.trans hE1))
        obtain ⟨b0, b1⟩ := cells2 (heap_ext HB.out (hz.trans hE1))
        obtain ⟨c0, c1⟩ := cells2 (heap_ext HC.out (hz.trans hE1))
        go_wp2_with fail
        refine (less4_any t p t p _).mono ?_
        rw [HS.out]
        rintro e w2 ⟨rfl, hE2⟩
        clear a0 a1 b0 b1 c0 c1
        obtain ⟨a0, a1⟩ := cells2 (heap_ext HA.out ((hz.trans hE1).trans hE2))
        obtain ⟨b0, b1⟩ := cells2 (heap_ext HB.out ((hz.trans hE1).trans hE2))
        obtain ⟨c0, c1⟩ := cells2 (heap_ext HC.out ((hz.trans hE1).trans hE2))
        go_wp2_with fail
        refine (less4_any t p u q _).mono ?_
        rw [HX.out]
        rintro e w3 ⟨rfl, hE3⟩
        clear a0 a1 b0 b1 c0 c1
        go_wp2_with fail
        go_ret
        exact ⟨rfl, hE0.trans (((hz.trans hE1).trans hE2).trans hE3)⟩
    | false =>
      obtain ⟨e1, e2⟩ := less_same hX hY
      subst e1 e2
      have HY := Lib.hid hY
      clear hX hY
      unfold seqV
      go_enter Try.func8, Try.ntmps8
      go_wp2_with fail
      generalize hw0 : (((W.alloc (.cells #[.int .i64 t, .int .i64 p] 45)).alloc (.cells #[.int .i64 t, .int .i64 p] 45)).alloc (.cells #[.int .i64 x, .int .i64 y] 45)) = w0 at *
      clear hw0
      generalize W.heap.size = h0 at *
      refine wp_region_facts (by kernel_rfl) Ext (fun iop v w => match iop with
          | 0 => v = .agg #[.int .i64 t, .int .i64 p]
          | 1 => v = .agg #[.int .i64 t, .int .i64 p]
          | 2 => v = .bool false
          | 3 => v = .agg #[.int .i64 t, .int .i64 p]
          | 4 => v = .agg #[.int .i64 t, .int .i64 p]
          | 5 => v = .bool false
          | 6 => v = .bool false
          | 7 => v = .bool false
          | 8 => v = .agg #[.int .i64 t, .int .i64 p]
          | 9 => v = .agg #[.int .i64 t, .int .i64 p]
          | 10 => v = .bool false
          | 11 => v = .bool false
          | 12 => v = undef
          | 13 => v = undef
          | 14 => v = undef
          | 15 => v = .bool false
          | 16 => v = .bool false
          | 17 => v = .bool false
          | 18 => v = .agg #[.int .i64 t, .int .i64 p]
          | 19 => v = .agg #[.int .i64 t, .int .i64 p]
          | 20 => v = .bool false
          | 21 => v = .bool true
          | 22 => v = .bool true
          | 23 => v = .agg #[.int .i64 t, .int .i64 p]
          | 24 => v = .agg #[.int .i64 t, .int .i64 p]
          | 25 => v = .bool false
          | 26 => v = .bool true
          | 27 => v = .bool true
          | 28 => v = .bool true
          | 29 => v = .agg #[.int .i64 t, .int .i64 p]
          | 30 => v = .agg #[.int .i64 t, .int .i64 p]
          | 31 => v = .bool false
          | 32 => v = .bool false
          | _ => v = .bool false
          ) (by kernel_rfl) (fun _ _ _ h k => Ext.trans h k) (fun a => Ext.refl a) (Ext.drew _) ?_ ?_ ?_
      · intro iop v wa wb hF hL
        cases iop with
        | zero => exact hF
        | succ iop =>
          cases iop with
          | zero => exact hF
          | succ iop =>
            cases iop with
            | zero => exact hF
            | succ iop =>
              cases iop with
              | zero => exact hF
              | succ iop =>
                cases iop with
                | zero => exact hF
                | succ iop =>
                  cases iop with
                  | zero => exact hF
                  | succ iop =>
                    cases iop with
                    | zero => exact hF
                    | succ iop =>
                      cases iop with
                      | zero => exact hF
                      | succ iop =>
                        cases iop with
                        | zero => exact hF
                        | succ iop =>
                          cases iop with
                          | zero => exact hF
                          | succ iop =>
                            cases iop with
                            | zero => exact hF
                            | succ iop =>
                              cases iop with
                              | zero => exact hF
                              | succ iop =>
                                cases iop with
                                | zero => exact hF
                                | succ iop =>
                                  cases iop with
                                  | zero => exact hF
                                  | succ iop =>
                                    cases iop with
                                    | zero => exact hF
                                    | succ iop =>
                                      cases iop with
                                      | zero => exact hF
                                      | succ iop =>
                                        cases iop with
                                        | zero => exact hF
                                        | succ iop =>
                                          cases iop with
                                          | zero => exact hF
                                          | succ iop =>
                                            cases iop with
                                            | zero => exact hF
                                            | succ iop =>
                                              cases iop with
                                              | zero => exact hF
                                              | succ iop =>
                                                cases iop with
                                                | zero => exact hF
                                                | succ iop =>
                                                  cases iop with
                                                  | zero => exact hF
                                                  | succ iop =>
                                                    cases iop with
                                                    | zero => exact hF
                                                    | succ iop =>
                                                      cases iop with
                                                      | zero => exact hF
                                                      | succ iop =>
                                                        cases iop with
                                                        | zero => exact hF
                                                        | succ iop =>
                                                          cases iop with
                                                          | zero => exact hF
                                                          | succ iop =>
                                                            cases iop with
                                                            | zero => exact hF
                                                            | succ iop =>
                                                              cases iop with
                                                              | zero => exact hF
                                                              | succ iop =>
                                                                cases iop with
                                                                | zero => exact hF
                                                                | succ iop =>
                                                                  cases iop with
                                                                  | zero => exact hF
                                                                  | succ iop =>
                                                                    cases iop with
                                                                    | zero => exact hF
                                                                    | succ iop =>
                                                                      cases iop with
                                                                      | zero => exact hF
                                                                      | succ iop =>
                                                                        cases iop with
                                                                        | zero => exact hF
                                                                        | succ iop =>
                                                                          exact hF
      · refine Obls.cons ?_ (Obls.cons ?_ (Obls.cons ?_ (Obls.cons ?_ (Obls.cons ?_ (Obls.cons ?_ (Obls.cons ?_ (Obls.cons ?_ (Obls.cons ?_ (Obls.cons ?_ (Obls.cons ?_ (Obls.cons ?_ (Obls.cons ?_ (Obls.cons ?_ (Obls.cons ?_ (Obls.cons ?_ (Obls.cons ?_ (Obls.cons ?_ (Obls.cons ?_ (Obls.cons ?_ (Obls.cons ?_ (Obls.cons ?_ (Obls.cons ?_ (Obls.cons ?_ (Obls.cons ?_ (Obls.cons ?_ (Obls.cons ?_ (Obls.cons ?_ (Obls.cons ?_ (Obls.cons ?_ (Obls.cons ?_ (Obls.cons ?_ (Obls.cons ?_ (Obls.cons ?_ (Obls.nil))))))))))))))))))))))))))))))))))
        · intro ev wy hp hl hk hd
          have e3 : ev (.tmp 3) = .pointer (some ⟨h0, 0, none⟩) := hk 3 (by decide)
          clear hk
          clear hd
          exact Yield.ld rfl e3 (ld_seq (heap_ext HA.out hl)) ⟨Ext.refl _, rfl⟩
        · intro ev wy hp hl hk hd
          have e4 : ev (.tmp 4) = .pointer (some ⟨h0 + 1, 0, none⟩) := hk 4 (by decide)
          clear hk
          clear hd
          exact Yield.ld rfl e4 (ld_seq (heap_ext HB.out hl)) ⟨Ext.refl _, rfl⟩
        · intro ev wy hp hl hk hd
          have e7 : ev (.tmp 7) = .agg #[.int .i64 t, .int .i64 p] := hk 7 (by decide)
          have e8 : ev (.tmp 8) = .agg #[.int .i64 t, .int .i64 p] := hk 8 (by decide)
          clear hk
          clear hd
          refine Yield.call rfl hp Try.func25 rfl (by kernel_rfl) ?_
          simp only [List.map_toArray, List.map_cons, List.map_nil, e7, e8]
          exact ((HX.out ▸ less4_any t p t p wy)).mono fun _ _ ⟨he, hb⟩ => ⟨_, he, hb, by first | rfl | simp⟩
        · intro ev wy hp hl hk hd
          have e3 : ev (.tmp 3) = .pointer (some ⟨h0, 0, none⟩) := hk 3 (by decide)
          clear hk
          clear hd
          exact Yield.ld rfl e3 (ld_seq (heap_ext HA.out hl)) ⟨Ext.refl _, rfl⟩
        · intro ev wy hp hl hk hd
          have e4 : ev (.tmp 4) = .pointer (some ⟨h0 + 1, 0, none⟩) := hk 4 (by decide)
          clear hk
          clear hd
          exact Yield.ld rfl e4 (ld_seq (heap_ext HB.out hl)) ⟨Ext.refl _, rfl⟩
        · intro ev wy hp hl hk hd
          have e10 : ev (.tmp 10) = .agg #[.int .i64 t, .int .i64 p] := hk 10 (by decide)
          have e11 : ev (.tmp 11) = .agg #[.int .i64 t, .int .i64 p] := hk 11 (by decide)
          clear hk
          clear hd
          refine Yield.call rfl hp Try.func26 rfl (by kernel_rfl) ?_
          simp only [List.map_toArray, List.map_cons, List.map_nil, e10, e11]
          exact ((HX.out ▸ refLess4_any t p t p wy)).mono fun _ _ ⟨he, hb⟩ => ⟨_, he, hb, by first | rfl | simp⟩
        · intro ev wy hp hl hk hd
          have e9 : ev (.tmp 9) = .bool false := hk 9 (by decide)
          have e12 : ev (.tmp 12) = .bool false := hk 12 (by decide)
          clear hk
          clear hd
          exact Yield.op (v := .bool false) (w' := wy) (by simp [execOp, go_sem, e9, e12]) ⟨Ext.refl _, rfl⟩
        · intro ev wy hp hl hk hd
          have e13 : ev (.tmp 13) = .bool false := hk 13 (by decide)
          clear hk
          clear hd
          exact Yield.mv rfl ⟨Ext.refl _, e13⟩
        · intro ev wy hp hl hk hd
          have e3 : ev (.tmp 3) = .pointer (some ⟨h0, 0, none⟩) := hk 3 (by decide)
          clear hk
          refine ⟨fun _ _ _ => ?_, fun _ hx hne => absurd hx hne⟩
          clear hd
          exact Yield.ld rfl e3 (ld_seq (heap_ext HA.out hl)) ⟨Ext.refl _, rfl⟩
        · intro ev wy hp hl hk hd
          have e4 : ev (.tmp 4) = .pointer (some ⟨h0 + 1, 0, none⟩) := hk 4 (by decide)
          clear hk
          refine ⟨fun _ _ _ => ?_, fun _ hx hne => absurd hx hne⟩
          clear hd
          exact Yield.ld rfl e4 (ld_seq (heap_ext HB.out hl)) ⟨Ext.refl _, rfl⟩
        · intro ev wy hp hl hk hd
          have e15 : ev (.tmp 15) = .agg #[.int .i64 t, .int .i64 p] := hk 15 (by decide)
          have e16 : ev (.tmp 16) = .agg #[.int .i64 t, .int .i64 p] := hk 16 (by decide)
          clear hk
          refine ⟨fun _ _ _ => ?_, fun _ hx hne => absurd hx hne⟩
          clear hd
          refine Yield.call rfl hp Try.func25 rfl (by kernel_rfl) ?_
          simp only [List.map_toArray, List.map_cons, List.map_nil, e15, e16]
          exact ((HX.out ▸ less4_any t p t p wy)).mono fun _ _ ⟨he, hb⟩ => ⟨_, he, hb, by first | rfl | simp⟩
        · intro ev wy hp hl hk hd
          have e17 : ev (.tmp 17) = .bool false := hk 17 (by decide)
          clear hk
          refine ⟨fun _ _ _ => ?_, fun _ hx hne => absurd hx hne⟩
          clear hd
          exact Yield.mv rfl ⟨Ext.refl _, e17⟩
        · intro ev wy hp hl hk hd
          have e4 : ev (.tmp 4) = .pointer (some ⟨h0 + 1, 0, none⟩) := hk 4 (by decide)
          clear hk
          exact ⟨fun x hx he => (by rw [show x = .bool false from hx] at he; cases he), fun _ _ _ => rfl⟩
        · intro ev wy hp hl hk hd
          have e3 : ev (.tmp 3) = .pointer (some ⟨h0, 0, none⟩) := hk 3 (by decide)
          clear hk
          exact ⟨fun x hx he => (by rw [show x = .bool false from hx] at he; cases he), fun _ _ _ => rfl⟩
        · intro ev wy hp hl hk hd
          have e19 : ev (.tmp 19) = undef := hk 19 (by decide)
          have e20 : ev (.tmp 20) = undef := hk 20 (by decide)
          clear hk
          exact ⟨fun x hx he => (by rw [show x = .bool false from hx] at he; cases he), fun _ _ _ => rfl⟩
        · intro ev wy hp hl hk hd
          have e18 : ev (.tmp 18) = .bool false := hk 18 (by decide)
          have e21 : ev (.tmp 21) = undef := hk 21 (by decide)
          clear hk
          refine ⟨fun _ _ _ => ?_, fun _ hx hne => absurd hx hne⟩
          clear hd
          exact Yield.pick (t := false) rfl e18 ⟨Ext.refl _, hp.const _⟩
        · intro ev wy hp hl hk hd
          have e14 : ev (.tmp 14) = .bool false := hk 14 (by decide)
          have e22 : ev (.tmp 22) = .bool false := hk 22 (by decide)
          clear hk
          clear hd
          exact Yield.pick (t := false) rfl e14 ⟨Ext.refl _, e22⟩
        · intro ev wy hp hl hk hd
          have e23 : ev (.tmp 23) = .bool false := hk 23 (by decide)
          clear hk
          clear hd
          exact Yield.mv rfl ⟨Ext.refl _, e23⟩
        · intro ev wy hp hl hk hd
          have e3 : ev (.tmp 3) = .pointer (some ⟨h0, 0, none⟩) := hk 3 (by decide)
          clear hk
          refine ⟨fun _ _ _ => ?_, fun _ hx hne => absurd hx hne⟩
          clear hd
          exact Yield.ld rfl e3 (ld_seq (heap_ext HA.out hl)) ⟨Ext.refl _, rfl⟩
        · intro ev wy hp hl hk hd
          have e4 : ev (.tmp 4) = .pointer (some ⟨h0 + 1, 0, none⟩) := hk 4 (by decide)
          clear hk
          refine ⟨fun _ _ _ => ?_, fun _ hx hne => absurd hx hne⟩
          clear hd
          exact Yield.ld rfl e4 (ld_seq (heap_ext HB.out hl)) ⟨Ext.refl _, rfl⟩
        · intro ev wy hp hl hk hd
          have e25 : ev (.tmp 25) = .agg #[.int .i64 t, .int .i64 p] := hk 25 (by decide)
          have e26 : ev (.tmp 26) = .agg #[.int .i64 t, .int .i64 p] := hk 26 (by decide)
          clear hk
          refine ⟨fun _ _ _ => ?_, fun _ hx hne => absurd hx hne⟩
          clear hd
          refine Yield.call rfl hp Try.func25 rfl (by kernel_rfl) ?_
          simp only [List.map_toArray, List.map_cons, List.map_nil, e25, e26]
          exact ((HX.out ▸ less4_any t p t p wy)).mono fun _ _ ⟨he, hb⟩ => ⟨_, he, hb, by first | rfl | simp⟩
        · intro ev wy hp hl hk hd
          have e27 : ev (.tmp 27) = .bool false := hk 27 (by decide)
          clear hk
          refine ⟨fun _ _ _ => ?_, fun _ hx hne => absurd hx hne⟩
          clear hd
          exact Yield.op (v := .bool true) (w' := wy) (by simp [execOp, go_sem, e27]) ⟨Ext.refl _, rfl⟩
        · intro ev wy hp hl hk hd
          have e28 : ev (.tmp 28) = .bool true := hk 28 (by decide)
          clear hk
          refine ⟨fun _ _ _ => ?_, fun _ hx hne => absurd hx hne⟩
          clear hd
          exact Yield.mv rfl ⟨Ext.refl _, e28⟩
        · intro ev wy hp hl hk hd
          have e4 : ev (.tmp 4) = .pointer (some ⟨h0 + 1, 0, none⟩) := hk 4 (by decide)
          clear hk
          refine ⟨fun _ _ _ => ?_, fun _ hx hne => absurd hx hne⟩
          clear hd
          exact Yield.ld rfl e4 (ld_seq (heap_ext HB.out hl)) ⟨Ext.refl _, rfl⟩
        · intro ev wy hp hl hk hd
          have e3 : ev (.tmp 3) = .pointer (some ⟨h0, 0, none⟩) := hk 3 (by decide)
          clear hk
          refine ⟨fun _ _ _ => ?_, fun _ hx hne => absurd hx hne⟩
          clear hd
          exact Yield.ld rfl e3 (ld_seq (heap_ext HA.out hl)) ⟨Ext.refl _, rfl⟩
        · intro ev wy hp hl hk hd
          have e30 : ev (.tmp 30) = .agg #[.int .i64 t, .int .i64 p] := hk 30 (by decide)
          have e31 : ev (.tmp 31) = .agg #[.int .i64 t, .int .i64 p] := hk 31 (by decide)
          clear hk
          refine ⟨fun _ _ _ => ?_, fun _ hx hne => absurd hx hne⟩
          clear hd
          refine Yield.call rfl hp Try.func25 rfl (by kernel_rfl) ?_
          simp only [List.map_toArray, List.map_cons, List.map_nil, e30, e31]
          exact ((HY.out ▸ less4_any t p t p wy)).mono fun _ _ ⟨he, hb⟩ => ⟨_, he, hb, by first | rfl | simp⟩
        · intro ev wy hp hl hk hd
          have e32 : ev (.tmp 32) = .bool false := hk 32 (by decide)
          clear hk
          refine ⟨fun _ _ _ => ?_, fun _ hx hne => absurd hx hne⟩
          clear hd
          exact Yield.op (v := .bool true) (w' := wy) (by simp [execOp, go_sem, e32]) ⟨Ext.refl _, rfl⟩
        · intro ev wy hp hl hk hd
          have e29 : ev (.tmp 29) = .bool true := hk 29 (by decide)
          have e33 : ev (.tmp 33) = .bool true := hk 33 (by decide)
          clear hk
          refine ⟨fun _ _ _ => ?_, fun _ hx hne => absurd hx hne⟩
          clear hd
          exact Yield.pick (t := true) rfl e29 ⟨Ext.refl _, e33⟩
        · intro ev wy hp hl hk hd
          have e34 : ev (.tmp 34) = .bool true := hk 34 (by decide)
          clear hk
          refine ⟨fun _ _ _ => ?_, fun _ hx hne => absurd hx hne⟩
          clear hd
          exact Yield.mv rfl ⟨Ext.refl _, e34⟩
        · intro ev wy hp hl hk hd
          have e3 : ev (.tmp 3) = .pointer (some ⟨h0, 0, none⟩) := hk 3 (by decide)
          clear hk
          refine ⟨fun _ _ _ => ?_, fun _ hx hne => absurd hx hne⟩
          clear hd
          exact Yield.ld rfl e3 (ld_seq (heap_ext HA.out hl)) ⟨Ext.refl _, rfl⟩
        · intro ev wy hp hl hk hd
          have e4 : ev (.tmp 4) = .pointer (some ⟨h0 + 1, 0, none⟩) := hk 4 (by decide)
          clear hk
          refine ⟨fun _ _ _ => ?_, fun _ hx hne => absurd hx hne⟩
          clear hd
          exact Yield.ld rfl e4 (ld_seq (heap_ext HB.out hl)) ⟨Ext.refl _, rfl⟩
        · intro ev wy hp hl hk hd
          have e36 : ev (.tmp 36) = .agg #[.int .i64 t, .int .i64 p] := hk 36 (by decide)
          have e37 : ev (.tmp 37) = .agg #[.int .i64 t, .int .i64 p] := hk 37 (by decide)
          clear hk
          refine ⟨fun _ _ _ => ?_, fun _ hx hne => absurd hx hne⟩
          clear hd
          exact Yield.op (v := .bool false) (w' := wy) (by simp [execOp, go_sem, e36, e37]) ⟨Ext.refl _, rfl⟩
        · intro ev wy hp hl hk hd
          have e35 : ev (.tmp 35) = .bool true := hk 35 (by decide)
          have e38 : ev (.tmp 38) = .bool false := hk 38 (by decide)
          clear hk
          refine ⟨fun _ _ _ => ?_, fun _ hx hne => absurd hx hne⟩
          clear hd
          exact Yield.pick (t := true) rfl e35 ⟨Ext.refl _, e38⟩
        · intro ev wy hp hl hk hd
          have e24 : ev (.tmp 24) = .bool false := hk 24 (by decide)
          have e39 : ev (.tmp 39) = .bool false := hk 39 (by decide)
          clear hk
          clear hd
          exact Yield.pick (t := false) rfl e24 ⟨Ext.refl _, e39⟩
      · intro vals wz hz hv
        have g7 : vals 0 = .agg #[.int .i64 t, .int .i64 p] := hv 0 (by decide)
        have g8 : vals 1 = .agg #[.int .i64 t, .int .i64 p] := hv 1 (by decide)
        have g9 : vals 2 = .bool false := hv 2 (by decide)
        have g10 : vals 3 = .agg #[.int .i64 t, .int .i64 p] := hv 3 (by decide)
        have g11 : vals 4 = .agg #[.int .i64 t, .int .i64 p] := hv 4 (by decide)
        have g12 : vals 5 = .bool false := hv 5 (by decide)
        have g13 : vals 6 = .bool false := hv 6 (by decide)
        have g14 : vals 7 = .bool false := hv 7 (by decide)
        have g15 : vals 8 = .agg #[.int .i64 t, .int .i64 p] := hv 8 (by decide)
        have g16 : vals 9 = .agg #[.int .i64 t, .int .i64 p] := hv 9 (by decide)
        have g17 : vals 10 = .bool false := hv 10 (by decide)
        have g18 : vals 11 = .bool false := hv 11 (by decide)
        have g19 : vals 12 = undef := hv 12 (by decide)
        have g20 : vals 13 = undef := hv 13 (by decide)
        have g21 : vals 14 = undef := hv 14 (by decide)
        have g22 : vals 15 = .bool false := hv 15 (by decide)
        have g23 : vals 16 = .bool false := hv 16 (by decide)
        have g24 : vals 17 = .bool false := hv 17 (by decide)
        have g25 : vals 18 = .agg #[.int .i64 t, .int .i64 p] := hv 18 (by decide)
        have g26 : vals 19 = .agg #[.int .i64 t, .int .i64 p] := hv 19 (by decide)
        have g27 : vals 20 = .bool false := hv 20 (by decide)
        have g28 : vals 21 = .bool true := hv 21 (by decide)
        have g29 : vals 22 = .bool true := hv 22 (by decide)
        have g30 : vals 23 = .agg #[.int .i64 t, .int .i64 p] := hv 23 (by decide)
        have g31 : vals 24 = .agg #[.int .i64 t, .int .i64 p] := hv 24 (by decide)
        have g32 : vals 25 = .bool false := hv 25 (by decide)
        have g33 : vals 26 = .bool true := hv 26 (by decide)
        have g34 : vals 27 = .bool true := hv 27 (by decide)
        have g35 : vals 28 = .bool true := hv 28 (by decide)
        have g36 : vals 29 = .agg #[.int .i64 t, .int .i64 p] := hv 29 (by decide)
        have g37 : vals 30 = .agg #[.int .i64 t, .int .i64 p] := hv 30 (by decide)
        have g38 : vals 31 = .bool false := hv 31 (by decide)
        have g39 : vals 32 = .bool false := hv 32 (by decide)
        have g40 : vals 33 = .bool false := hv 33 (by decide)
        clear hv
        simp only [putAll, Act.put, List.setIfInBounds_toArray, List.set_cons_zero, List.set_cons_succ, g7, g8, g9, g10, g11, g12, g13, g14, g15, g16, g17, g18, g19, g20, g21, g22, g23, g24, g25, g26, g27, g28, g29, g30, g31, g32, g33, g34, g35, g36, g37, g38, g39, g40]
        clear g7
        clear g8
        clear g9
        clear g10
        clear g11
        clear g12
        clear g13
        clear g14
        clear g15
        clear g16
        clear g17
        clear g18
        clear g19
        clear g20
        clear g21
        clear g22
        clear g23
        clear g24
        clear g25
        clear g26
        clear g27
        clear g28
        clear g29
        clear g30
        clear g31
        clear g32
        clear g33
        clear g34
        clear g35
        clear g36
        clear g37
        clear g38
        clear g39
        clear g40
        obtain ⟨a0, a1⟩ := cells2 (heap_ext HA.out hz)
        obtain ⟨b0, b1⟩ := cells2 (heap_ext HB.out hz)
        obtain ⟨c0, c1⟩ := cells2 (heap_ext HC.out hz)
        go_wp2_with fail
        refine (recAlive_any _).mono ?_
        rintro e w1 ⟨rfl, hE1⟩
        clear a0 a1 b0 b1 c0 c1
        obtain ⟨a0, a1⟩ := cells2 (heap_ext HA.out (hz.trans hE1))
        obtain ⟨b0, b1⟩ := cells2 (heap_ext HB.out (hz.trans hE1))
        obtain ⟨c0, c1⟩ := cells2 (heap_ext HC.out (hz.trans hE1))
        go_wp2_with fail
        refine (less4_any t p t p _).mono ?_
        rw [HS.out]
        rintro e w2 ⟨rfl, hE2⟩
        clear a0 a1 b0 b1 c0 c1
        obtain ⟨a0, a1⟩ := cells2 (heap_ext HA.out ((hz.trans hE1).trans hE2))
        obtain ⟨b0, b1⟩ := cells2 (heap_ext HB.out ((hz.trans hE1).trans hE2))
        obtain ⟨c0, c1⟩ := cells2 (heap_ext HC.out ((hz.trans hE1).trans hE2))
        go_wp2_with fail
        refine (less4_any t p t p _).mono ?_
        rw [HX.out]
        rintro e w3 ⟨rfl, hE3⟩
        clear a0 a1 b0 b1 c0 c1
        go_wp2_with fail
        go_ret
        exact ⟨rfl, hE0.trans (((hz.trans hE1).trans hE2).trans hE3)⟩

namespace recordOrder
theorem own : ownKnob Try.prog.godebug = none := by kernel_rfl
theorem laidOut : laidOutB Try.prog = true := by kernel_rfl
set_option linter.unusedVariables false in
set_option maxRecDepth 100000 in
theorem lifted (os : Os) (started : os.Started) (H : Type) (enc : TypeId × Value → H) :
    ReturnsInHanded {} Try.checked os 8 .any (Rows.recordOrderSpec.pre6 enc Try.prog Try.f8 Rows.recordOrderRow.domain false) (Rows.recordOrderSpec.post enc Try.prog Try.f8 false true false false) := by
  refine returnsInHanded_of_change_sized (C := Try.checked) own started (by kernel_rfl) Try.func8
    (ChangeSpec.witness6 (enc := enc) (C := Try.checked) false ⟨#[], #[.agg #[.int .i64 0, .int .i64 0], .agg #[.int .i64 0, .int .i64 0], .agg #[.int .i64 0, .int .i64 0]], []⟩ 8 (by kernel_rfl) (by kernel_rfl) (by kernel_rfl) (by kernel_rfl)) ?_
  intro W base args ds gs before hval0 hW hcnd hsz _
  have hval : ∀ (j : Nat) t v, Try.f8.params[j]? = some t → args[j]? = some v → Value.okWide Try.prog W .any base t v := hval0
  have hW' := hW
  obtain ⟨p, q, hA0, hV, rfl, hfz, hnd⟩ := hW'
  have hA : DataW.TrodAll enc Try.prog W 0 (fun _ => true) true Try.f8.params.toList args.toList ds p := hA0
  rw [Try.params8] at hA hval
  obtain ⟨v0, vs0, d0, ds0, p0, q0, hargs, rfl, rfl, h0, r0⟩ := trodAll_cons hA
  obtain ⟨v1, vs1, d1, ds1, p1, q1, rfl, rfl, rfl, h1, r1⟩ := trodAll_cons r0
  obtain ⟨v2, vs2, d2, ds2, p2, q2, rfl, rfl, rfl, h2, r2⟩ := trodAll_cons r1
  obtain ⟨rfl, rfl, rfl⟩ := trodAll_nil r2
  obtain rfl : args = #[v0, v1, v2] := by cases args; simp_all
  obtain ⟨rfl, rfl⟩ := trodVars_none hV
  have k0 := h0
  have lt0 : ∀ x ∈ p0, x.block < W.heap.size := by obtain ⟨m, hm⟩ := k0; exact DataW.trod_lt m _ _ _ hm
  obtain ⟨l0, rfl⟩ := seq_arg (hval 0 45 v0 rfl rfl) h0
  have k1 := h1
  have lt1 : ∀ x ∈ p1, x.block < W.heap.size := by obtain ⟨m, hm⟩ := k1; exact DataW.trod_lt m _ _ _ hm
  obtain ⟨l1, rfl⟩ := seq_arg (hval 1 45 v1 rfl rfl) h1
  have k2 := h2
  have lt2 : ∀ x ∈ p2, x.block < W.heap.size := by obtain ⟨m, hm⟩ := k2; exact DataW.trod_lt m _ _ _ hm
  obtain ⟨l2, rfl⟩ := seq_arg (hval 2 45 v2 rfl rfl) h2
  clear hA0 hval0
  refine (recordOrder_walk l0.1 l0.2 l1.1 l1.2 l2.1 l2.2 W).mono fun e W' ⟨he, bel⟩ => ?_
  subst he
  exact ⟨_, rfl, _, _, _, [], _, [], hW, trodAll_mk1 (shut_bool Try.underlying4 _), (trodAll_cons_mk (Below.trod laidOut (by kernel_rfl) (of_decide_eq_true (by kernel_rfl)) k0 bel lt0) (trodAll_cons_mk (Below.trod laidOut (by kernel_rfl) (of_decide_eq_true (by kernel_rfl)) k1 bel lt1) (trodAll_cons_mk (Below.trod laidOut (by kernel_rfl) (of_decide_eq_true (by kernel_rfl)) k2 bel lt2) trodAll_mk0))), rfl, bel.frame _, fun h => by cases h⟩
theorem over : Rows.recordOrderRow.holds Try.pinned (OpenSpec.ofChange Rows.recordOrderSpec) :=
  OpenClaim.holds_of_wide 8 Try.f8 rfl rfl rfl rfl rfl rfl rfl ⟨rfl, rfl, rfl, rfl, rfl⟩ rfl rfl rfl rfl rfl (by kernel_rfl) Try.func8 (by kernel_rfl)
    (of_decide_eq_true (by kernel_rfl)) (by unfold Func.isWrapper; first | (rw [if_pos (by decide +kernel)]; kernel_rfl) | (rw [if_neg (by decide +kernel)]; exact ⟨rfl, rfl⟩))
    (fun os started H enc _ => lifted os started H enc)
theorem proved : Rows.RecordOrderSaid := over
end recordOrder
end Go.Proofs.Ytjflbjlpibekhaa
