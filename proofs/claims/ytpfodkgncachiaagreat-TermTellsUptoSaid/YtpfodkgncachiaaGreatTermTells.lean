/-
  TermTells: who is first, how many are more than half, who serves which shard, and who all are, is what the document says: for every input whose parts are at most 1048576 in all (the given bound) the statement's function returns true, and leaves what came in as it was.
-/
import Derived.Test.YtpfodkgncachiaaGreatTrmRaw
namespace Go.Proofs.YtpfodkgncachiaaGreat
set_option maxRecDepth 100000
set_option linter.unusedSimpArgs false
set_option linter.unusedVariables false
open Go.ChangeShapes Go.WideShapes Go.ChangeAt Go.RowKit

theorem ldConf (T : TypeId) (hT : T = 32 ∨ T = 25) {w : World} {q : Nat} {n : Int} {a b : Option Addr} {m p k r : Nat} (h : ConfAt T w q n (.slice a m p) (.slice b k r)) : (Instr.loadAt T (.pointer (some ⟨q, 0, none⟩))).run Tryz.prog w = .ok (.agg #[.int .i64 n, .slice a m p, .slice b k r]) w := by
  obtain ⟨c0, c1, c2⟩ := h.cells
  rcases hT with rfl | rfl
  · simp [go_sem, c0, c1, c2]
  · simp [go_sem, c0, c1, c2]

set_option maxHeartbeats 16000000 in
theorem termTells_walk (v : Value) (c : Term.C) (node shard : Int) (W : World) (hv : IsConf W v c) (hf : ∀ y ∈ Term.all c, Wf64 y) (hlen : (Term.all c).length ≤ 1048576) (hsh : c.shards.length ≤ 1048576) :
    Calls Tryz.prog 5 #[v, .int .i64 node, .int .i64 shard] W fun e W' => e = .returned (.bool true) ∧ Below W.heap.size W W' := by
  have HV := Lib.hid hv
  have hbx := box_confR
  obtain ⟨a1, n1, p1, b1, m1, q1, rfl⟩ := hv.shape
  clear hv
  have hseq : c.seqs.length ≤ 140737488355328 := by
    have : (Term.all c).length = c.seqs.length + c.shards.flatten.length := by unfold Term.all; rw [List.length_append]
    omega
  have HF := Lib.hid hf
  have HLEN := Lib.hid (show (Term.all c).length ≤ 2000000 by omega)
  have HSH := Lib.hid (show c.shards.length ≤ 2000000 by omega)
  have HSEQ := Lib.hid hseq
  clear hf hlen hsh hseq
  obtain ⟨t, ht⟩ : ∃ t, c.term = t := ⟨_, rfl⟩
  rw [ht] at HV ⊢
  clear ht
  obtain ⟨P, hP⟩ : ∃ P, primI c.seqs = P := ⟨_, rfl⟩
  obtain ⟨M, hM⟩ : ∃ M : Int, ((Term.majority c : Nat) : Int) = M := ⟨_, rfl⟩
  obtain ⟨S, hS⟩ : ∃ S, servesI c.shards node shard = S := ⟨_, rfl⟩
  have HSS := Lib.hid (show (S == S) = true by cases S <;> rfl)
  have HM1 := Lib.hid (fun (w : World) (h : IsConf w (.agg #[.int .i64 t, .slice a1 n1 p1, .slice b1 m1 q1]) c) => hM ▸ majority6_any _ c w h HSEQ.out)
  have HM2 := Lib.hid (fun (w : World) (h : IsConf w (.agg #[.int .i64 t, .slice a1 n1 p1, .slice b1 m1 q1]) c) => hM ▸ refMajority6_any _ c w h HSEQ.out)
  have HP1 := Lib.hid (fun (w : World) (h : IsConf w (.agg #[.int .i64 t, .slice a1 n1 p1, .slice b1 m1 q1]) c) => hP ▸ primary6_any _ c w h)
  have HP2 := Lib.hid (fun (w : World) (h : IsConf w (.agg #[.int .i64 t, .slice a1 n1 p1, .slice b1 m1 q1]) c) => hP ▸ refPrimary6_any _ c w h)
  have HS1 := Lib.hid (fun (w : World) (h : IsConf w (.agg #[.int .i64 t, .slice a1 n1 p1, .slice b1 m1 q1]) c) => hS ▸ serves6_any _ c node shard w h)
  have HS2 := Lib.hid (fun (w : World) (h : IsConf w (.agg #[.int .i64 t, .slice a1 n1 p1, .slice b1 m1 q1]) c) => hS ▸ refServes6_any _ c node shard w h)
  obtain ⟨N, hN⟩ : ∃ N, Term.nodes c = N := ⟨_, rfl⟩
  have HN1 := Lib.hid (fun (w : World) (h : IsConf w (.agg #[.int .i64 t, .slice a1 n1 p1, .slice b1 m1 q1]) c) => hN ▸ nodes6_any _ c w h HLEN.out HSH.out HF.out)
  have HN2 := Lib.hid (fun (w : World) (h : IsConf w (.agg #[.int .i64 t, .slice a1 n1 p1, .slice b1 m1 q1]) c) => hN ▸ refNodes6_any _ c w h HLEN.out)
  have HNN := Lib.hid (show (N == N) = true by simp)
  clear hP hM hS hN
  have hE0 : Ext W (W.alloc (.cells #[.int .i64 t, .slice a1 n1 p1, .slice b1 m1 q1] 25)) := Ext.alloc _ _
  have HA0 := Lib.hid (ConfAt.new 25 W t (.slice a1 n1 p1) (.slice b1 m1 q1))
  go_enter Tryz.func5, Tryz.ntmps5
  go_wp2_with fail
  refine (fewSome6_any _ c _ (HV.out.below hE0)).mono ?_
  unfold SomeBool
  rintro e w1 ⟨⟨fb, rfl⟩, hE1⟩
  have A1 := Lib.hid (HA0.out.ext hE1)
  have e1 := hE0.trans hE1
  obtain ⟨q, hq⟩ : ∃ q, W.heap.size = q := ⟨_, rfl⟩
  rw [hq] at A1
  cases fb with
  | false =>
    go_wp2_with fail
    refine (termAlive_any _).mono ?_
    rintro e w2 ⟨rfl, hE2⟩
    go_wp2_with fail
    go_ret
    exact ⟨rfl, e1.trans hE2⟩
  | true =>
    have hE2 := Ext.alloc w1 (.cells #[.int .i64 t, .slice a1 n1 p1, .slice b1 m1 q1] 32)
    have X2 := Lib.hid (ConfAt.new 32 w1 t (.slice a1 n1 p1) (.slice b1 m1 q1))
    have A2 := Lib.hid (A1.out.ext hE2)
    have e2 := e1.trans hE2
    have HV2 := Lib.hid (fun (wy : World) (h : Ext (w1.alloc (.cells #[.int .i64 t, .slice a1 n1 p1, .slice b1 m1 q1] 32)) wy) => HV.out.below (e2.trans h))
    obtain ⟨c0, c1, c2⟩ := A1.out.cells
    rw [hq]
    go_wp2_with fail
    clear c0 c1 c2
    obtain ⟨p, hp⟩ : ∃ p, w1.heap.size = p := ⟨_, rfl⟩
    rw [hp] at X2 ⊢
    clear hp
    obtain ⟨w2, hw2⟩ : ∃ w2, w1.alloc (.cells #[.int .i64 t, .slice a1 n1 p1, .slice b1 m1 q1] 32) = w2 := ⟨_, rfl⟩
    rw [hw2] at X2 A2 e2 HV2 hE2 ⊢
    clear hw2
    refine wp_region_facts (by kernel_rfl) Ext (fun iop v w => match iop with
        | 0 => v = .bool true
        | 1 => v = .bool true
        | 2 => v = .agg #[.int .i64 t, .slice a1 n1 p1, .slice b1 m1 q1]
        | 3 => v = .int .i64 M
        | 4 => v = .agg #[.int .i64 t, .slice a1 n1 p1, .slice b1 m1 q1]
        | 5 => v = .int .i64 M
        | 6 => v = .bool true
        | 7 => v = .bool true
        | 8 => v = .bool true
        | 9 => v = .agg #[.int .i64 t, .slice a1 n1 p1, .slice b1 m1 q1]
        | 10 => v = .int .i64 P
        | 11 => v = .agg #[.int .i64 t, .slice a1 n1 p1, .slice b1 m1 q1]
        | 12 => v = .int .i64 P
        | 13 => v = .bool true
        | 14 => v = .bool true
        | 15 => v = .bool true
        | 16 => v = .agg #[.int .i64 t, .slice a1 n1 p1, .slice b1 m1 q1]
        | 17 => v = .int .i64 node
        | 18 => v = .int .i64 shard
        | 19 => v = .bool S
        | 20 => v = .agg #[.int .i64 t, .slice a1 n1 p1, .slice b1 m1 q1]
        | 21 => v = .int .i64 node
        | 22 => v = .int .i64 shard
        | 23 => v = .bool S
        | 24 => v = .bool true
        | 25 => v = .bool true
        | 26 => v = .bool true
        | 27 => v = .agg #[.int .i64 t, .slice a1 n1 p1, .slice b1 m1 q1]
        | 28 => ∃ a n c, v = .slice a n c ∧ Ints w v N
        | 29 => v = .agg #[.int .i64 t, .slice a1 n1 p1, .slice b1 m1 q1]
        | 30 => ∃ a n c, v = .slice a n c ∧ Ints w v N
        | 31 => v = .bool true
        | 32 => v = .bool true
        | _ => v = .bool true
        ) (by kernel_rfl) (fun _ _ _ h k => Ext.trans h k) (fun a => Ext.refl a) (Ext.drew _) ?_ ?_ ?_
    · intro iop v wa wb hF hL
      cases iop with
      | zero => exact hF
      | succ iop =>
        cases iop with
        | zero => exact hF
        | succ iop =>
          cases iop with
          | zero => exact hF
          | succ iop =>
            cases iop with
            | zero => exact hF
            | succ iop =>
              cases iop with
              | zero => exact hF
              | succ iop =>
                cases iop with
                | zero => exact hF
                | succ iop =>
                  cases iop with
                  | zero => exact hF
                  | succ iop =>
                    cases iop with
                    | zero => exact hF
                    | succ iop =>
                      cases iop with
                      | zero => exact hF
                      | succ iop =>
                        cases iop with
                        | zero => exact hF
                        | succ iop =>
                          cases iop with
                          | zero => exact hF
                          | succ iop =>
                            cases iop with
                            | zero => exact hF
                            | succ iop =>
                              cases iop with
                              | zero => exact hF
                              | succ iop =>
                                cases iop with
                                | zero => exact hF
                                | succ iop =>
                                  cases iop with
                                  | zero => exact hF
                                  | succ iop =>
                                    cases iop with
                                    | zero => exact hF
                                    | succ iop =>
                                      cases iop with
                                      | zero => exact hF
                                      | succ iop =>
                                        cases iop with
                                        | zero => exact hF
                                        | succ iop =>
                                          cases iop with
                                          | zero => exact hF
                                          | succ iop =>
                                            cases iop with
                                            | zero => exact hF
                                            | succ iop =>
                                              cases iop with
                                              | zero => exact hF
                                              | succ iop =>
                                                cases iop with
                                                | zero => exact hF
                                                | succ iop =>
                                                  cases iop with
                                                  | zero => exact hF
                                                  | succ iop =>
                                                    cases iop with
                                                    | zero => exact hF
                                                    | succ iop =>
                                                      cases iop with
                                                      | zero => exact hF
                                                      | succ iop =>
                                                        cases iop with
                                                        | zero => exact hF
                                                        | succ iop =>
                                                          cases iop with
                                                          | zero => exact hF
                                                          | succ iop =>
                                                            cases iop with
                                                            | zero => exact hF
                                                            | succ iop =>
                                                              cases iop with
                                                              | zero => (first | exact hF | (obtain ⟨a, n, c, h1, h2⟩ := hF; exact ⟨a, n, c, h1, h2.below hL⟩))
                                                              | succ iop =>
                                                                cases iop with
                                                                | zero => exact hF
                                                                | succ iop =>
                                                                  cases iop with
                                                                  | zero => (first | exact hF | (obtain ⟨a, n, c, h1, h2⟩ := hF; exact ⟨a, n, c, h1, h2.below hL⟩))
                                                                  | succ iop =>
                                                                    cases iop with
                                                                    | zero => exact hF
                                                                    | succ iop =>
                                                                      cases iop with
                                                                      | zero => exact hF
                                                                      | succ iop =>
                                                                        exact hF
    · refine Obls.cons ?_ (Obls.cons ?_ (Obls.cons ?_ (Obls.cons ?_ (Obls.cons ?_ (Obls.cons ?_ (Obls.cons ?_ (Obls.cons ?_ (Obls.cons ?_ (Obls.cons ?_ (Obls.cons ?_ (Obls.cons ?_ (Obls.cons ?_ (Obls.cons ?_ (Obls.cons ?_ (Obls.cons ?_ (Obls.cons ?_ (Obls.cons ?_ (Obls.cons ?_ (Obls.cons ?_ (Obls.cons ?_ (Obls.cons ?_ (Obls.cons ?_ (Obls.cons ?_ (Obls.cons ?_ (Obls.cons ?_ (Obls.cons ?_ (Obls.cons ?_ (Obls.cons ?_ (Obls.cons ?_ (Obls.cons ?_ (Obls.cons ?_ (Obls.cons ?_ (Obls.cons ?_ (Obls.nil))))))))))))))))))))))))))))))))))
      · intro ev wy hp hl hk hd
        clear hk
        clear hd
        refine Yield.call rfl hp Tryz.func10 rfl (by kernel_rfl) ?_
        simp only [List.map_toArray, List.map_nil]
        exact (termAlive_any wy).mono fun _ _ ⟨he, hb⟩ => ⟨_, he, hb, by first | rfl | simp⟩
      · intro ev wy hp hl hk hd
        have e13 : ev (.tmp 13) = .bool true := hk 13 (by decide)
        clear hk
        clear hd
        exact Yield.mv rfl ⟨Ext.refl _, e13⟩
      · intro ev wy hp hl hk hd
        have e7 : ev (.tmp 7) = .pointer (some ⟨p, 0, none⟩) := hk 7 (by decide)
        clear hk
        refine ⟨fun _ _ _ => ?_, fun _ hx hne => absurd hx hne⟩
        clear hd
        exact Yield.load rfl e7 (ldConf _ (.inl rfl) (X2.out.ext hl)) ⟨Ext.refl _, rfl⟩
      · intro ev wy hp hl hk hd
        have e15 : ev (.tmp 15) = .agg #[.int .i64 t, .slice a1 n1 p1, .slice b1 m1 q1] := hk 15 (by decide)
        clear hk
        refine ⟨fun _ _ _ => ?_, fun _ hx hne => absurd hx hne⟩
        clear hd
        refine Yield.call rfl hp Tryz.func18 rfl (by kernel_rfl) ?_
        simp only [List.map_toArray, List.map_cons, List.map_nil, e15]
        exact (HM1.out wy (HV2.out wy hl)).mono fun _ _ ⟨he, hb⟩ => ⟨_, he, hb, by first | rfl | simp⟩
      · intro ev wy hp hl hk hd
        have e3 : ev (.tmp 3) = .pointer (some ⟨q, 0, none⟩) := hk 3 (by decide)
        clear hk
        refine ⟨fun _ _ _ => ?_, fun _ hx hne => absurd hx hne⟩
        clear hd
        exact Yield.load rfl e3 (ldConf _ (.inr rfl) (A2.out.ext hl)) ⟨Ext.refl _, rfl⟩
      · intro ev wy hp hl hk hd
        have e17 : ev (.tmp 17) = .agg #[.int .i64 t, .slice a1 n1 p1, .slice b1 m1 q1] := hk 17 (by decide)
        clear hk
        refine ⟨fun _ _ _ => ?_, fun _ hx hne => absurd hx hne⟩
        clear hd
        refine Yield.call rfl hp Tryz.func19 rfl (by kernel_rfl) ?_
        simp only [List.map_toArray, List.map_cons, List.map_nil, e17]
        exact (HM2.out wy (HV2.out wy hl)).mono fun _ _ ⟨he, hb⟩ => ⟨_, he, hb, by first | rfl | simp⟩
      · intro ev wy hp hl hk hd
        have e16 : ev (.tmp 16) = .int .i64 M := hk 16 (by decide)
        have e18 : ev (.tmp 18) = .int .i64 M := hk 18 (by decide)
        clear hk
        refine ⟨fun _ _ _ => ?_, fun _ hx hne => absurd hx hne⟩
        clear hd
        exact Yield.op (v := .bool true) (w' := wy) (by simp [execOp, go_sem, e16, e18]) ⟨Ext.refl _, rfl⟩
      · intro ev wy hp hl hk hd
        have e14 : ev (.tmp 14) = .bool true := hk 14 (by decide)
        have e19 : ev (.tmp 19) = .bool true := hk 19 (by decide)
        clear hk
        clear hd
        exact Yield.pick (t := true) rfl e14 ⟨Ext.refl _, e19⟩
      · intro ev wy hp hl hk hd
        have e20 : ev (.tmp 20) = .bool true := hk 20 (by decide)
        clear hk
        clear hd
        exact Yield.mv rfl ⟨Ext.refl _, e20⟩
      · intro ev wy hp hl hk hd
        have e7 : ev (.tmp 7) = .pointer (some ⟨p, 0, none⟩) := hk 7 (by decide)
        clear hk
        refine ⟨fun _ _ _ => ?_, fun _ hx hne => absurd hx hne⟩
        clear hd
        exact Yield.load rfl e7 (ldConf _ (.inl rfl) (X2.out.ext hl)) ⟨Ext.refl _, rfl⟩
      · intro ev wy hp hl hk hd
        have e22 : ev (.tmp 22) = .agg #[.int .i64 t, .slice a1 n1 p1, .slice b1 m1 q1] := hk 22 (by decide)
        clear hk
        refine ⟨fun _ _ _ => ?_, fun _ hx hne => absurd hx hne⟩
        clear hd
        refine Yield.call rfl hp Tryz.func20 rfl (by kernel_rfl) ?_
        simp only [List.map_toArray, List.map_cons, List.map_nil, e22]
        exact (HP1.out wy (HV2.out wy hl)).mono fun _ _ ⟨he, hb⟩ => ⟨_, he, hb, by first | rfl | simp⟩
      · intro ev wy hp hl hk hd
        have e3 : ev (.tmp 3) = .pointer (some ⟨q, 0, none⟩) := hk 3 (by decide)
        clear hk
        refine ⟨fun _ _ _ => ?_, fun _ hx hne => absurd hx hne⟩
        clear hd
        exact Yield.load rfl e3 (ldConf _ (.inr rfl) (A2.out.ext hl)) ⟨Ext.refl _, rfl⟩
      · intro ev wy hp hl hk hd
        have e24 : ev (.tmp 24) = .agg #[.int .i64 t, .slice a1 n1 p1, .slice b1 m1 q1] := hk 24 (by decide)
        clear hk
        refine ⟨fun _ _ _ => ?_, fun _ hx hne => absurd hx hne⟩
        clear hd
        refine Yield.call rfl hp Tryz.func21 rfl (by kernel_rfl) ?_
        simp only [List.map_toArray, List.map_cons, List.map_nil, e24]
        exact (HP2.out wy (HV2.out wy hl)).mono fun _ _ ⟨he, hb⟩ => ⟨_, he, hb, by first | rfl | simp⟩
      · intro ev wy hp hl hk hd
        have e23 : ev (.tmp 23) = .int .i64 P := hk 23 (by decide)
        have e25 : ev (.tmp 25) = .int .i64 P := hk 25 (by decide)
        clear hk
        refine ⟨fun _ _ _ => ?_, fun _ hx hne => absurd hx hne⟩
        clear hd
        exact Yield.op (v := .bool true) (w' := wy) (by simp [execOp, go_sem, e23, e25]) ⟨Ext.refl _, rfl⟩
      · intro ev wy hp hl hk hd
        have e21 : ev (.tmp 21) = .bool true := hk 21 (by decide)
        have e26 : ev (.tmp 26) = .bool true := hk 26 (by decide)
        clear hk
        clear hd
        exact Yield.pick (t := true) rfl e21 ⟨Ext.refl _, e26⟩
      · intro ev wy hp hl hk hd
        have e27 : ev (.tmp 27) = .bool true := hk 27 (by decide)
        clear hk
        clear hd
        exact Yield.mv rfl ⟨Ext.refl _, e27⟩
      · intro ev wy hp hl hk hd
        have e7 : ev (.tmp 7) = .pointer (some ⟨p, 0, none⟩) := hk 7 (by decide)
        clear hk
        refine ⟨fun _ _ _ => ?_, fun _ hx hne => absurd hx hne⟩
        clear hd
        exact Yield.load rfl e7 (ldConf _ (.inl rfl) (X2.out.ext hl)) ⟨Ext.refl _, rfl⟩
      · intro ev wy hp hl hk hd
        have e1 : ev (.tmp 1) = .int .i64 node := hk 1 (by decide)
        clear hk
        refine ⟨fun _ _ _ => ?_, fun _ hx hne => absurd hx hne⟩
        clear hd
        exact Yield.mv rfl ⟨Ext.refl _, e1⟩
      · intro ev wy hp hl hk hd
        have e2 : ev (.tmp 2) = .int .i64 shard := hk 2 (by decide)
        clear hk
        refine ⟨fun _ _ _ => ?_, fun _ hx hne => absurd hx hne⟩
        clear hd
        exact Yield.mv rfl ⟨Ext.refl _, e2⟩
      · intro ev wy hp hl hk hd
        have e29 : ev (.tmp 29) = .agg #[.int .i64 t, .slice a1 n1 p1, .slice b1 m1 q1] := hk 29 (by decide)
        have e30 : ev (.tmp 30) = .int .i64 node := hk 30 (by decide)
        have e31 : ev (.tmp 31) = .int .i64 shard := hk 31 (by decide)
        clear hk
        refine ⟨fun _ _ _ => ?_, fun _ hx hne => absurd hx hne⟩
        clear hd
        refine Yield.call rfl hp Tryz.func22 rfl (by kernel_rfl) ?_
        simp only [List.map_toArray, List.map_cons, List.map_nil, e29, e30, e31]
        exact (HS1.out wy (HV2.out wy hl)).mono fun _ _ ⟨he, hb⟩ => ⟨_, he, hb, by first | rfl | simp⟩
      · intro ev wy hp hl hk hd
        have e3 : ev (.tmp 3) = .pointer (some ⟨q, 0, none⟩) := hk 3 (by decide)
        clear hk
        refine ⟨fun _ _ _ => ?_, fun _ hx hne => absurd hx hne⟩
        clear hd
        exact Yield.load rfl e3 (ldConf _ (.inr rfl) (A2.out.ext hl)) ⟨Ext.refl _, rfl⟩
      · intro ev wy hp hl hk hd
        have e1 : ev (.tmp 1) = .int .i64 node := hk 1 (by decide)
        clear hk
        refine ⟨fun _ _ _ => ?_, fun _ hx hne => absurd hx hne⟩
        clear hd
        exact Yield.mv rfl ⟨Ext.refl _, e1⟩
      · intro ev wy hp hl hk hd
        have e2 : ev (.tmp 2) = .int .i64 shard := hk 2 (by decide)
        clear hk
        refine ⟨fun _ _ _ => ?_, fun _ hx hne => absurd hx hne⟩
        clear hd
        exact Yield.mv rfl ⟨Ext.refl _, e2⟩
      · intro ev wy hp hl hk hd
        have e33 : ev (.tmp 33) = .agg #[.int .i64 t, .slice a1 n1 p1, .slice b1 m1 q1] := hk 33 (by decide)
        have e34 : ev (.tmp 34) = .int .i64 node := hk 34 (by decide)
        have e35 : ev (.tmp 35) = .int .i64 shard := hk 35 (by decide)
        clear hk
        refine ⟨fun _ _ _ => ?_, fun _ hx hne => absurd hx hne⟩
        clear hd
        refine Yield.call rfl hp Tryz.func23 rfl (by kernel_rfl) ?_
        simp only [List.map_toArray, List.map_cons, List.map_nil, e33, e34, e35]
        exact (HS2.out wy (HV2.out wy hl)).mono fun _ _ ⟨he, hb⟩ => ⟨_, he, hb, by first | rfl | simp⟩
      · intro ev wy hp hl hk hd
        have e32 : ev (.tmp 32) = .bool S := hk 32 (by decide)
        have e36 : ev (.tmp 36) = .bool S := hk 36 (by decide)
        clear hk
        refine ⟨fun _ _ _ => ?_, fun _ hx hne => absurd hx hne⟩
        clear hd
        exact Yield.op (w' := wy) (by simp [execOp, go_sem, e32, e36]) ⟨Ext.refl _, rfl⟩
      · intro ev wy hp hl hk hd
        have e28 : ev (.tmp 28) = .bool true := hk 28 (by decide)
        have e37 : ev (.tmp 37) = .bool true := hk 37 (by decide)
        clear hk
        clear hd
        exact Yield.pick (t := true) rfl e28 ⟨Ext.refl _, e37⟩
      · intro ev wy hp hl hk hd
        have e38 : ev (.tmp 38) = .bool true := hk 38 (by decide)
        clear hk
        clear hd
        exact Yield.mv rfl ⟨Ext.refl _, e38⟩
      · intro ev wy hp hl hk hd
        have e7 : ev (.tmp 7) = .pointer (some ⟨p, 0, none⟩) := hk 7 (by decide)
        clear hk
        refine ⟨fun _ _ _ => ?_, fun _ hx hne => absurd hx hne⟩
        clear hd
        exact Yield.load rfl e7 (ldConf _ (.inl rfl) (X2.out.ext hl)) ⟨Ext.refl _, rfl⟩
      · intro ev wy hp hl hk hd
        have e40 : ev (.tmp 40) = .agg #[.int .i64 t, .slice a1 n1 p1, .slice b1 m1 q1] := hk 40 (by decide)
        clear hk
        refine ⟨fun _ _ _ => ?_, fun _ hx hne => absurd hx hne⟩
        clear hd
        refine Yield.call rfl hp Tryz.func25 rfl (by kernel_rfl) ?_
        simp only [List.map_toArray, List.map_cons, List.map_nil, e40]
        exact (HN1.out wy (HV2.out wy hl)).mono fun e w' ⟨u, he, ho, hE⟩ => ⟨u, he, hE, by obtain ⟨ua, un, uc, hu⟩ := ho.slice; exact ⟨ua, un, uc, hu, ho.ints⟩⟩
      · intro ev wy hp hl hk hd
        have e3 : ev (.tmp 3) = .pointer (some ⟨q, 0, none⟩) := hk 3 (by decide)
        clear hk
        refine ⟨fun _ _ _ => ?_, fun _ hx hne => absurd hx hne⟩
        clear hd
        exact Yield.load rfl e3 (ldConf _ (.inr rfl) (A2.out.ext hl)) ⟨Ext.refl _, rfl⟩
      · intro ev wy hp hl hk hd
        have e42 : ev (.tmp 42) = .agg #[.int .i64 t, .slice a1 n1 p1, .slice b1 m1 q1] := hk 42 (by decide)
        clear hk
        refine ⟨fun _ _ _ => ?_, fun _ hx hne => absurd hx hne⟩
        clear hd
        refine Yield.call rfl hp Tryz.func26 rfl (by kernel_rfl) ?_
        simp only [List.map_toArray, List.map_cons, List.map_nil, e42]
        exact (HN2.out wy (HV2.out wy hl)).mono fun e w' ⟨u, he, ho, hE⟩ => ⟨u, he, hE, by obtain ⟨ua, un, uc, hu⟩ := ho.slice; exact ⟨ua, un, uc, hu, ho.ints⟩⟩
      · intro ev wy hp hl hk hd
        have f41 : (fun (v : Value) (w : World) => ∃ a n c, v = .slice a n c ∧ Ints w v N) (ev (.tmp 41)) wy := hk 41 (by decide)
        generalize hx41 : ev (.tmp 41) = x41 at *
        have f43 : (fun (v : Value) (w : World) => ∃ a n c, v = .slice a n c ∧ Ints w v N) (ev (.tmp 43)) wy := hk 43 (by decide)
        generalize hx43 : ev (.tmp 43) = x43 at *
        clear hk
        refine ⟨fun _ _ _ => ?_, fun _ hx hne => absurd hx hne⟩
        clear hd
        refine Yield.call rfl hp Tryz.func24 rfl (by kernel_rfl) ?_
        simp only [List.map_toArray, List.map_cons, List.map_nil, hx41, hx43]
        obtain ⟨aa, an, ac, hv1, hi1⟩ := f41
        obtain ⟨ba, bn, bc, hv2, hi2⟩ := f43
        exact (equal3_any x41 x43 N N wy hi1 hi2).mono fun e w' ⟨he, hE⟩ => ⟨_, he, hE, by rw [HNN.out]⟩
      · intro ev wy hp hl hk hd
        have e39 : ev (.tmp 39) = .bool true := hk 39 (by decide)
        have e44 : ev (.tmp 44) = .bool true := hk 44 (by decide)
        clear hk
        clear hd
        exact Yield.pick (t := true) rfl e39 ⟨Ext.refl _, e44⟩
      · intro ev wy hp hl hk hd
        have e45 : ev (.tmp 45) = .bool true := hk 45 (by decide)
        clear hk
        clear hd
        exact Yield.as rfl ⟨Ext.refl _, e45⟩
    · intro vals wz hz hv
      have g13 : vals 0 = .bool true := hv 0 (by decide)
      have g14 : vals 1 = .bool true := hv 1 (by decide)
      have g15 : vals 2 = .agg #[.int .i64 t, .slice a1 n1 p1, .slice b1 m1 q1] := hv 2 (by decide)
      have g16 : vals 3 = .int .i64 M := hv 3 (by decide)
      have g17 : vals 4 = .agg #[.int .i64 t, .slice a1 n1 p1, .slice b1 m1 q1] := hv 4 (by decide)
      have g18 : vals 5 = .int .i64 M := hv 5 (by decide)
      have g19 : vals 6 = .bool true := hv 6 (by decide)
      have g20 : vals 7 = .bool true := hv 7 (by decide)
      have g21 : vals 8 = .bool true := hv 8 (by decide)
      have g22 : vals 9 = .agg #[.int .i64 t, .slice a1 n1 p1, .slice b1 m1 q1] := hv 9 (by decide)
      have g23 : vals 10 = .int .i64 P := hv 10 (by decide)
      have g24 : vals 11 = .agg #[.int .i64 t, .slice a1 n1 p1, .slice b1 m1 q1] := hv 11 (by decide)
      have g25 : vals 12 = .int .i64 P := hv 12 (by decide)
      have g26 : vals 13 = .bool true := hv 13 (by decide)
      have g27 : vals 14 = .bool true := hv 14 (by decide)
      have g28 : vals 15 = .bool true := hv 15 (by decide)
      have g29 : vals 16 = .agg #[.int .i64 t, .slice a1 n1 p1, .slice b1 m1 q1] := hv 16 (by decide)
      have g30 : vals 17 = .int .i64 node := hv 17 (by decide)
      have g31 : vals 18 = .int .i64 shard := hv 18 (by decide)
      have g32 : vals 19 = .bool S := hv 19 (by decide)
      have g33 : vals 20 = .agg #[.int .i64 t, .slice a1 n1 p1, .slice b1 m1 q1] := hv 20 (by decide)
      have g34 : vals 21 = .int .i64 node := hv 21 (by decide)
      have g35 : vals 22 = .int .i64 shard := hv 22 (by decide)
      have g36 : vals 23 = .bool S := hv 23 (by decide)
      have g37 : vals 24 = .bool true := hv 24 (by decide)
      have g38 : vals 25 = .bool true := hv 25 (by decide)
      have g39 : vals 26 = .bool true := hv 26 (by decide)
      have g40 : vals 27 = .agg #[.int .i64 t, .slice a1 n1 p1, .slice b1 m1 q1] := hv 27 (by decide)
      have g41 : (fun (v : Value) (w : World) => ∃ a n c, v = .slice a n c ∧ Ints w v N) (vals 28) wz := hv 28 (by decide)
      have g42 : vals 29 = .agg #[.int .i64 t, .slice a1 n1 p1, .slice b1 m1 q1] := hv 29 (by decide)
      have g43 : (fun (v : Value) (w : World) => ∃ a n c, v = .slice a n c ∧ Ints w v N) (vals 30) wz := hv 30 (by decide)
      have g44 : vals 31 = .bool true := hv 31 (by decide)
      have g45 : vals 32 = .bool true := hv 32 (by decide)
      have g6 : vals 33 = .bool true := hv 33 (by decide)
      clear hv
      simp only [putAll, Act.put, List.setIfInBounds_toArray, List.set_cons_zero, List.set_cons_succ, g13, g14, g15, g16, g17, g18, g19, g20, g21, g22, g23, g24, g25, g26, g27, g28, g29, g30, g31, g32, g33, g34, g35, g36, g37, g38, g39, g40, g42, g44, g45, g6]
      clear g13
      clear g14
      clear g15
      clear g16
      clear g17
      clear g18
      clear g19
      clear g20
      clear g21
      clear g22
      clear g23
      clear g24
      clear g25
      clear g26
      clear g27
      clear g28
      clear g29
      clear g30
      clear g31
      clear g32
      clear g33
      clear g34
      clear g35
      clear g36
      clear g37
      clear g38
      clear g39
      clear g40
      generalize vals 28 = v41 at *
      clear g42
      generalize vals 30 = v43 at *
      clear g44
      clear g45
      clear g6
      clear g41 g43
      go_wp2_with fail
      go_ret
      exact ⟨rfl, e2.trans hz⟩

namespace termTellsUpto
theorem own : ownKnob Tryz.prog.godebug = none := by kernel_rfl
theorem laidOut : laidOutB Tryz.prog = true := by kernel_rfl
set_option linter.unusedVariables false in
set_option maxRecDepth 100000 in
theorem lifted (os : Os) (started : os.Started) (H : Type) (enc : TypeId × Value → H) (F : Stop.Interp) :
    ReturnsInHanded {} Tryz.checked os 5 .any ((Rows.OpenSpec.upto Rows.termTellsSpec).pre6 enc Tryz.prog Tryz.f5 Rows.termTellsUptoRow.domain false) (((Rows.OpenSpec.upto Rows.termTellsSpec).at F).post enc Tryz.prog Tryz.f5 false true false false) := by
  refine returnsInHanded_of_cond (C := Tryz.checked) (s := (Rows.OpenSpec.upto Rows.termTellsSpec)) (k := Rows.uptoSmall) rfl own started (by kernel_rfl) Tryz.func5
    (OpenSpec.witness (enc := enc) (C := Tryz.checked) (s := (Rows.OpenSpec.upto Rows.termTellsSpec)) (k := Rows.uptoSmall) rfl false ⟨#[], #[.agg #[.int .i64 0, .slice none 0 0, .slice none 0 0], .int .i64 0, .int .i64 0], []⟩ 8 (by kernel_rfl) (by kernel_rfl) (by kernel_rfl)
      (x := ([.agg [.lit (.int .i64 0), .nil, .nil], .lit (.int .i64 0), .lit (.int .i64 0)], [], [])) (by kernel_rfl) rfl (by kernel_rfl)) ?_
  intro W base args ds gs before hval0 hW hcnd hbulk0 _
  have hval : ∀ (j : Nat) t v, Tryz.f5.params[j]? = some t → args[j]? = some v → Value.okWide Tryz.prog W .any base t v := hval0
  have hW' := hW
  obtain ⟨p, q, hA0, hV, rfl, hfz, hnd⟩ := hW'
  have hA : DataW.TrodAll enc Tryz.prog W 0 (fun _ => true) true Tryz.f5.params.toList args.toList ds p := hA0
  rw [Tryz.params5] at hA hval
  obtain ⟨v0, vs0, d0, ds0, p0, q0, hargs, rfl, rfl, h0, r0⟩ := trodAll_cons hA
  obtain ⟨v1, vs1, d1, ds1, p1, q1, rfl, rfl, rfl, h1, r1⟩ := trodAll_cons r0
  obtain ⟨v2, vs2, d2, ds2, p2, q2, rfl, rfl, rfl, h2, r2⟩ := trodAll_cons r1
  obtain ⟨rfl, rfl, rfl⟩ := trodAll_nil r2
  obtain rfl : args = #[v0, v1, v2] := by cases args; simp_all
  obtain ⟨rfl, rfl⟩ := trodVars_none hV
  have hbulk : Rows.uptoBulkAll [d0, d1, d2] ≤ 1048576 := of_decide_eq_true hbulk0
  simp only [Rows.uptoBulkAll] at hbulk
  have k0 := h0
  have lt0 : ∀ x ∈ p0, x.block < W.heap.size := by obtain ⟨m, hm⟩ := k0; exact DataW.trod_lt m _ _ _ hm
  obtain ⟨l0, w0, f0, sz0⟩ := conf_full (hval 0 25 v0 rfl rfl) h0
  have k1 := h1
  have lt1 : ∀ x ∈ p1, x.block < W.heap.size := by obtain ⟨m, hm⟩ := k1; exact DataW.trod_lt m _ _ _ hm
  obtain ⟨a1, rfl, _, _, w1⟩ := open_int Tryz.underlying3 (hval 1 3 v1 rfl rfl) h1
  have k2 := h2
  have lt2 : ∀ x ∈ p2, x.block < W.heap.size := by obtain ⟨m, hm⟩ := k2; exact DataW.trod_lt m _ _ _ hm
  obtain ⟨a2, rfl, _, _, w2⟩ := open_int Tryz.underlying3 (hval 2 3 v2 rfl rfl) h2
  clear hA0 hval0
  refine (termTells_walk _ l0 a1 a2 W w0 f0 (by omega) (by omega)).mono fun e W' ⟨he, bel⟩ => ?_
  subst he
  exact ⟨_, rfl, _, _, _, [], _, [], hW, trodAll_mk1 (shut_bool Tryz.underlying4 _), (trodAll_cons_mk (Below.trod laidOut (by kernel_rfl) (of_decide_eq_true (by kernel_rfl)) k0 bel lt0) (trodAll_cons_mk (Below.trod laidOut (by kernel_rfl) (of_decide_eq_true (by kernel_rfl)) k1 bel lt1) (trodAll_cons_mk (Below.trod laidOut (by kernel_rfl) (of_decide_eq_true (by kernel_rfl)) k2 bel lt2) trodAll_mk0))), rfl, bel.frame _, fun h => by cases h⟩
theorem over : Rows.termTellsUptoRow.holds Tryz.pinned (Rows.OpenSpec.upto Rows.termTellsSpec) :=
  OpenClaim.holds_of_cond 5 Tryz.f5 rfl rfl rfl rfl rfl rfl rfl ⟨rfl, rfl, rfl, rfl, rfl⟩ rfl rfl rfl rfl rfl (by kernel_rfl) Tryz.func5 (by kernel_rfl)
    (of_decide_eq_true (by kernel_rfl)) (by unfold Func.isWrapper; first | (rw [if_pos (by decide +kernel)]; kernel_rfl) | (rw [if_neg (by decide +kernel)]; exact ⟨rfl, rfl⟩))
    (fun os started H enc _ F => lifted os started H enc F)
theorem proved : Rows.TermTellsUptoSaid := over
end termTellsUpto
end Go.Proofs.YtpfodkgncachiaaGreat
