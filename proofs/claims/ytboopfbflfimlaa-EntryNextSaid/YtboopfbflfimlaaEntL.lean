/-
  Layer 5: how many entries follow one another, and the last cut: the document's own answers.
-/
import Derived.Test.YtboopfbflfimlaaEntK
namespace Go.Proofs.Ytboopfbflfimlaa
set_option linter.unusedSimpArgs false
set_option linter.unusedVariables false
set_option maxRecDepth 100000
open Go.RowKit

/-- s[:h], the elements of any size. -/
theorem runTo {P : Program} {w : World} {t e : TypeId} {size : Nat} (ht : P.underlying t = some (.slice e)) (hs : (P.info? e).map (·.size) = some size) {a : Option Addr} {n cap : Nat} (h : Nat) (hh : h ≤ cap) (k : IntKind) :
    (Instr.sliceAt t (.slice a n cap) none (some (.int k (h : Int))) none).run P w = .ok (.slice a h cap) w := by
  have he : P.elem t = e := by simp [Program.elem, ht]
  have ht' : P.underlying t = some (.slice (P.elem t)) := by rw [he]; exact ht
  obtain ⟨i, hi, h1⟩ := Option.map_eq_some_iff.1 hs
  rw [run_sliceAt_slice w t _ _ _ _ ht', run_slice_h w t a n cap ht' k h (by omega) (by omega)]
  simp [sizeOf, typeInfo, he, hi, Result.andThen, sliced, Addr.add]
theorem ldEntR {w : World} {b o : Nat} {n k t m p : Int} {u : Value} (h : ∃ a n c, u = .slice a n c) (p0 : w.cell? ⟨b, o, none⟩ = some (.int .i64 n)) (p1 : w.cell? ⟨b, o + 1, none⟩ = some (.int .i64 k)) (p2 : w.cell? ⟨b, o + 2, none⟩ = some u) (p3 : w.cell? ⟨b, o + 3, none⟩ = some (.int .i64 t)) (p4 : w.cell? ⟨b, o + 4, none⟩ = some (.int .i64 m)) (p5 : w.cell? ⟨b, o + 5, none⟩ = some (.int .i64 p)) :
    (Instr.loadAt 26 (.pointer (some ⟨b, o, none⟩))).run Try.prog w = .ok (.agg #[.int .i64 n, .int .i64 k, u, .int .i64 t, .int .i64 m, .int .i64 p]) w := by
  obtain ⟨a, x, c, rfl⟩ := h
  simp [go_sem, p0, p1, p2, p3, p4, p5]

set_option maxHeartbeats 8000000 in
theorem refChain5_any (v : Value) (l : List Ent.E) (w : World) (hv : Ents w v l) (hl : l.length ≤ 4611686018427387904) :
    Calls Try.prog 21 #[v] w fun x w' => x = .returned (.int .i64 (Ent.chain l : Int)) ∧ Ext w w' := by
  have HV := Lib.hid hv
  obtain ⟨a, cap, rfl, hcap, hmax⟩ := hv.shape
  clear hv
  go_enter Try.func21, Try.ntmps21
  go_wp2_with fail
  go_loopw [3] (fun n wr => ∃ k : Nat, k ≤ l.length ∧ n = .int .i64 k ∧ Hid (Ent.chain (l.take k) = k) ∧ Ext w wr) (fun n _ => l.length - (intOf n).toNat)
  case atStart => exact ⟨0, by omega, rfl, rfl, Ext.refl _⟩
  case round =>
    obtain ⟨k, hk, rfl, hch, hE⟩ := hrel
    by_cases hlt : k < l.length
    · have HVR := HV.out.below hE
      have HVR2 := Lib.hid (HVR.take k hk)
      obtain ⟨a', cap', e', _, _, _, hc⟩ := HVR
      obtain ⟨b, off, rfl, t, p0, p1, p2, p3, p4, p5, ht⟩ := hc k hlt
      injection e' with e1' e2' e3'
      subst e1' e3'
      have hnext := Ent.chain_next hlt hch.out
      have hstop := fun h => Ent.chain_stop hlt hch.out h
      obtain ⟨a2, cap2, rfl, hcap2, hmax2, _, _⟩ := ht.open
      have hb := World.block_lt_of_cell? _ _ p0
      have key : ∀ w', Ext wr w' → ∀ i, w'.cell? ⟨b, i, none⟩ = wr.cell? ⟨b, i, none⟩ := fun w' h i => h.cell (p := ⟨b, i, none⟩) hb
      have HLD := Lib.hid (show ∀ w', Ext wr w' → (Instr.loadAt 26 (.pointer (some ⟨b, off + k * 6, none⟩))).run Try.prog w' = .ok (.agg #[.int .i64 l[k].number, .int .i64 l[k].kind, .slice a2 l[k].cut.length cap2, .int .i64 l[k].tag, .int .i64 l[k].term, .int .i64 l[k].pos]) w' from fun w' h => ldEntR ⟨_, _, _, rfl⟩ ((key w' h _).trans p0) ((key w' h _).trans p1) ((key w' h _).trans p2) ((key w' h _).trans p3) ((key w' h _).trans p4) ((key w' h _).trans p5))
      have HI := Lib.hid (show IsEnt wr (.agg #[.int .i64 l[k].number, .int .i64 l[k].kind, .slice a2 l[k].cut.length cap2, .int .i64 l[k].tag, .int .i64 l[k].term, .int .i64 l[k].pos]) l[k] from ⟨_, rfl, ht⟩)
      clear key p0 p1 p2 p3 p4 p5 hc ht e2'
      generalize l[k] = R at *
      obtain ⟨n, kd, c, tg, m, p⟩ := R
      simp only at *
      obtain ⟨F, hF⟩ : ∃ F, Ent.follows (l.take k) ⟨n, kd, c, tg, m, p⟩ = F := ⟨_, rfl⟩
      rw [hF] at hnext hstop
      have HF := Lib.hid hF
      have HNEXT := Lib.hid hnext
      have HSTOP := Lib.hid hstop
      have hsl : ∀ wy : World, (Instr.sliceAt 43 (.slice (some ⟨b, off, none⟩) l.length cap) none (some (.int .i64 (k : Int))) none).run Try.prog wy = .ok (.slice (some ⟨b, off, none⟩) k cap) wy := fun wy => runTo (size := 6) Try.underlying43 (by kernel_rfl) k (by omega) .i64
      have hlk : (l.take k).length ≤ 4611686018427387904 := by rw [List.length_take]; omega
      clear hF hnext hstop
      go_wp2_with fail
      refine wp_region_facts (by kernel_rfl) Ext (fun iop v w => match iop with
          | 0 => v = .int .i64 (k : Int)
          | 1 => v = .slice (some ⟨b, off, none⟩) l.length cap
          | 2 => v = .int .i64 (l.length : Int)
          | 3 => v = .bool true
          | 4 => v = .bool true
          | 5 => v = .slice (some ⟨b, off, none⟩) l.length cap
          | 6 => v = .int .i64 (k : Int)
          | 7 => v = .slice (some ⟨b, off, none⟩) k cap
          | 8 => v = .slice (some ⟨b, off, none⟩) l.length cap
          | 9 => v = .int .i64 (k : Int)
          | 10 => v = .pointer (some ⟨b, off + k * 6, none⟩)
          | 11 => v = .agg #[.int .i64 n, .int .i64 kd, .slice a2 c.length cap2, .int .i64 tg, .int .i64 m, .int .i64 p]
          | 12 => v = .bool F
          | _ => v = .bool F
          ) (by kernel_rfl) (fun _ _ _ h k => Ext.trans h k) (fun a => Ext.refl a) (Ext.drew _) ?_ ?_ ?_
      · intro iop v wa wb hF hL
        cases iop with
        | zero => exact hF
        | succ iop =>
          cases iop with
          | zero => exact hF
          | succ iop =>
            cases iop with
            | zero => exact hF
            | succ iop =>
              cases iop with
              | zero => exact hF
              | succ iop =>
                cases iop with
                | zero => exact hF
                | succ iop =>
                  cases iop with
                  | zero => exact hF
                  | succ iop =>
                    cases iop with
                    | zero => exact hF
                    | succ iop =>
                      cases iop with
                      | zero => exact hF
                      | succ iop =>
                        cases iop with
                        | zero => exact hF
                        | succ iop =>
                          cases iop with
                          | zero => exact hF
                          | succ iop =>
                            cases iop with
                            | zero => exact hF
                            | succ iop =>
                              cases iop with
                              | zero => exact hF
                              | succ iop =>
                                cases iop with
                                | zero => exact hF
                                | succ iop =>
                                  exact hF
      · refine Obls.cons ?_ (Obls.cons ?_ (Obls.cons ?_ (Obls.cons ?_ (Obls.cons ?_ (Obls.cons ?_ (Obls.cons ?_ (Obls.cons ?_ (Obls.cons ?_ (Obls.cons ?_ (Obls.cons ?_ (Obls.cons ?_ (Obls.cons ?_ (Obls.cons ?_ (Obls.nil))))))))))))))
        · intro ev wy hp hl hk hd
          have e3 : ev (.tmp 3) = .int .i64 (k : Int) := hk 3 (by decide)
          clear hk
          clear hd
          exact Yield.mv rfl ⟨Ext.refl _, e3⟩
        · intro ev wy hp hl hk hd
          have e0 : ev (.tmp 0) = .slice (some ⟨b, off, none⟩) l.length cap := hk 0 (by decide)
          clear hk
          clear hd
          exact Yield.mv rfl ⟨Ext.refl _, e0⟩
        · intro ev wy hp hl hk hd
          have e5 : ev (.tmp 5) = .slice (some ⟨b, off, none⟩) l.length cap := hk 5 (by decide)
          clear hk
          clear hd
          exact Yield.op (v := .int .i64 (l.length : Int)) (w' := wy) (by simp [execOp, go_sem, e5]) ⟨Ext.refl _, rfl⟩
        · intro ev wy hp hl hk hd
          have e4 : ev (.tmp 4) = .int .i64 (k : Int) := hk 4 (by decide)
          have e6 : ev (.tmp 6) = .int .i64 (l.length : Int) := hk 6 (by decide)
          clear hk
          clear hd
          exact Yield.op (w' := wy) (by simp [execOp, go_sem, e4, e6]; omega) ⟨Ext.refl _, rfl⟩
        · intro ev wy hp hl hk hd
          have e7 : ev (.tmp 7) = .bool true := hk 7 (by decide)
          clear hk
          clear hd
          exact Yield.mv rfl ⟨Ext.refl _, e7⟩
        · intro ev wy hp hl hk hd
          have e0 : ev (.tmp 0) = .slice (some ⟨b, off, none⟩) l.length cap := hk 0 (by decide)
          clear hk
          refine ⟨fun _ _ _ => ?_, fun _ hx hne => absurd hx hne⟩
          clear hd
          exact Yield.mv rfl ⟨Ext.refl _, e0⟩
        · intro ev wy hp hl hk hd
          have e3 : ev (.tmp 3) = .int .i64 (k : Int) := hk 3 (by decide)
          clear hk
          refine ⟨fun _ _ _ => ?_, fun _ hx hne => absurd hx hne⟩
          clear hd
          exact Yield.mv rfl ⟨Ext.refl _, e3⟩
        · intro ev wy hp hl hk hd
          have e9 : ev (.tmp 9) = .slice (some ⟨b, off, none⟩) l.length cap := hk 9 (by decide)
          have e10 : ev (.tmp 10) = .int .i64 (k : Int) := hk 10 (by decide)
          clear hk
          refine ⟨fun _ _ _ => ?_, fun _ hx hne => absurd hx hne⟩
          clear hd
          exact Yield.op (w' := wy) (by simp [execOp, go_sem, e9, e10, hsl]) ⟨Ext.refl _, rfl⟩
        · intro ev wy hp hl hk hd
          have e0 : ev (.tmp 0) = .slice (some ⟨b, off, none⟩) l.length cap := hk 0 (by decide)
          clear hk
          refine ⟨fun _ _ _ => ?_, fun _ hx hne => absurd hx hne⟩
          clear hd
          exact Yield.mv rfl ⟨Ext.refl _, e0⟩
        · intro ev wy hp hl hk hd
          have e3 : ev (.tmp 3) = .int .i64 (k : Int) := hk 3 (by decide)
          clear hk
          refine ⟨fun _ _ _ => ?_, fun _ hx hne => absurd hx hne⟩
          clear hd
          exact Yield.mv rfl ⟨Ext.refl _, e3⟩
        · intro ev wy hp hl hk hd
          have e12 : ev (.tmp 12) = .slice (some ⟨b, off, none⟩) l.length cap := hk 12 (by decide)
          have e13 : ev (.tmp 13) = .int .i64 (k : Int) := hk 13 (by decide)
          clear hk
          refine ⟨fun _ _ _ => ?_, fun _ hx hne => absurd hx hne⟩
          clear hd
          exact Yield.op (w' := wy) (by simp [execOp, go_sem, e12, e13]; intro h; omega) ⟨Ext.refl _, rfl⟩
        · intro ev wy hp hl hk hd
          have e14 : ev (.tmp 14) = .pointer (some ⟨b, off + k * 6, none⟩) := hk 14 (by decide)
          clear hk
          refine ⟨fun _ _ _ => ?_, fun _ hx hne => absurd hx hne⟩
          clear hd
          exact Yield.load rfl e14 (HLD.out _ hl) ⟨Ext.refl _, rfl⟩
        · intro ev wy hp hl hk hd
          have e11 : ev (.tmp 11) = .slice (some ⟨b, off, none⟩) k cap := hk 11 (by decide)
          have e15 : ev (.tmp 15) = .agg #[.int .i64 n, .int .i64 kd, .slice a2 c.length cap2, .int .i64 tg, .int .i64 m, .int .i64 p] := hk 15 (by decide)
          clear hk
          refine ⟨fun _ _ _ => ?_, fun _ hx hne => absurd hx hne⟩
          clear hd
          refine Yield.call rfl hp Try.func51 rfl (by kernel_rfl) ?_
          simp only [List.map_toArray, List.map_cons, List.map_nil, e11, e15]
          exact ((HF.out ▸ refFollows5_any _ _ (l.take k) ⟨n, kd, c, tg, m, p⟩ wy (HVR2.out.below hl) (HI.out.below hl) hlk)).mono fun _ _ ⟨he, hb⟩ => ⟨_, he, hb, by first | rfl | simp⟩
        · intro ev wy hp hl hk hd
          have e8 : ev (.tmp 8) = .bool true := hk 8 (by decide)
          have e16 : ev (.tmp 16) = .bool F := hk 16 (by decide)
          clear hk
          clear hd
          exact Yield.pick (t := true) rfl e8 ⟨Ext.refl _, e16⟩
      · intro vals wz hz hv
        have g4 : vals 0 = .int .i64 (k : Int) := hv 0 (by decide)
        have g5 : vals 1 = .slice (some ⟨b, off, none⟩) l.length cap := hv 1 (by decide)
        have g6 : vals 2 = .int .i64 (l.length : Int) := hv 2 (by decide)
        have g7 : vals 3 = .bool true := hv 3 (by decide)
        have g8 : vals 4 = .bool true := hv 4 (by decide)
        have g9 : vals 5 = .slice (some ⟨b, off, none⟩) l.length cap := hv 5 (by decide)
        have g10 : vals 6 = .int .i64 (k : Int) := hv 6 (by decide)
        have g11 : vals 7 = .slice (some ⟨b, off, none⟩) k cap := hv 7 (by decide)
        have g12 : vals 8 = .slice (some ⟨b, off, none⟩) l.length cap := hv 8 (by decide)
        have g13 : vals 9 = .int .i64 (k : Int) := hv 9 (by decide)
        have g14 : vals 10 = .pointer (some ⟨b, off + k * 6, none⟩) := hv 10 (by decide)
        have g15 : vals 11 = .agg #[.int .i64 n, .int .i64 kd, .slice a2 c.length cap2, .int .i64 tg, .int .i64 m, .int .i64 p] := hv 11 (by decide)
        have g16 : vals 12 = .bool F := hv 12 (by decide)
        have g17 : vals 13 = .bool F := hv 13 (by decide)
        clear hv
        simp only [putAll, Act.put, List.setIfInBounds_toArray, List.set_cons_zero, List.set_cons_succ, g4, g5, g6, g7, g8, g9, g10, g11, g12, g13, g14, g15, g16, g17]
        clear g4
        clear g5
        clear g6
        clear g7
        clear g8
        clear g9
        clear g10
        clear g11
        clear g12
        clear g13
        clear g14
        clear g15
        clear g16
        clear g17
        have hE2 := hE.trans hz
        cases F with
        | true =>
          have hnx := HNEXT.out
          rw [if_pos rfl] at hnx
          have HNX := Lib.hid hnx
          clear hnx
          go_wp2_with fail
          go_roundw
          case rel => exact ⟨k + 1, by omega, by go_num, HNX.out, hE2⟩
          case measure => simp [intOf]; omega
        | false =>
          have HC := Lib.hid (HSTOP.out rfl)
          go_wp2_with fail
          go_ret
          exact ⟨by rw [HC.out]; rfl, hE2⟩
    · obtain rfl : k = l.length := by omega
      have HC := Lib.hid (Ent.chain_end hch.out)
      go_wp2_with fail
      refine wp_region_facts (by kernel_rfl) Ext (fun iop v w => match iop with
          | 0 => v = .int .i64 (l.length : Int)
          | 1 => v = .slice a l.length cap
          | 2 => v = .int .i64 (l.length : Int)
          | 3 => v = .bool false
          | 4 => v = .bool false
          | 5 => v = undef
          | 6 => v = undef
          | 7 => v = undef
          | 8 => v = undef
          | 9 => v = undef
          | 10 => v = undef
          | 11 => v = undef
          | 12 => v = undef
          | _ => v = .bool false
          ) (by kernel_rfl) (fun _ _ _ h k => Ext.trans h k) (fun a => Ext.refl a) (Ext.drew _) ?_ ?_ ?_
      · intro iop v wa wb hF hL
        cases iop with
        | zero => exact hF
        | succ iop =>
          cases iop with
          | zero => exact hF
          | succ iop =>
            cases iop with
            | zero => exact hF
            | succ iop =>
              cases iop with
              | zero => exact hF
              | succ iop =>
                cases iop with
                | zero => exact hF
                | succ iop =>
                  cases iop with
                  | zero => exact hF
                  | succ iop =>
                    cases iop with
                    | zero => exact hF
                    | succ iop =>
                      cases iop with
                      | zero => exact hF
                      | succ iop =>
                        cases iop with
                        | zero => exact hF
                        | succ iop =>
                          cases iop with
                          | zero => exact hF
                          | succ iop =>
                            cases iop with
                            | zero => exact hF
                            | succ iop =>
                              cases iop with
                              | zero => exact hF
                              | succ iop =>
                                cases iop with
                                | zero => exact hF
                                | succ iop =>
                                  exact hF
      · refine Obls.cons ?_ (Obls.cons ?_ (Obls.cons ?_ (Obls.cons ?_ (Obls.cons ?_ (Obls.cons ?_ (Obls.cons ?_ (Obls.cons ?_ (Obls.cons ?_ (Obls.cons ?_ (Obls.cons ?_ (Obls.cons ?_ (Obls.cons ?_ (Obls.cons ?_ (Obls.nil))))))))))))))
        · intro ev wy hp hl hk hd
          have e3 : ev (.tmp 3) = .int .i64 (l.length : Int) := hk 3 (by decide)
          clear hk
          clear hd
          exact Yield.mv rfl ⟨Ext.refl _, e3⟩
        · intro ev wy hp hl hk hd
          have e0 : ev (.tmp 0) = .slice a l.length cap := hk 0 (by decide)
          clear hk
          clear hd
          exact Yield.mv rfl ⟨Ext.refl _, e0⟩
        · intro ev wy hp hl hk hd
          have e5 : ev (.tmp 5) = .slice a l.length cap := hk 5 (by decide)
          clear hk
          clear hd
          exact Yield.op (v := .int .i64 (l.length : Int)) (w' := wy) (by simp [execOp, go_sem, e5]) ⟨Ext.refl _, rfl⟩
        · intro ev wy hp hl hk hd
          have e4 : ev (.tmp 4) = .int .i64 (l.length : Int) := hk 4 (by decide)
          have e6 : ev (.tmp 6) = .int .i64 (l.length : Int) := hk 6 (by decide)
          clear hk
          clear hd
          exact Yield.op (v := .bool false) (w' := wy) (by simp [execOp, go_sem, e4, e6]) ⟨Ext.refl _, rfl⟩
        · intro ev wy hp hl hk hd
          have e7 : ev (.tmp 7) = .bool false := hk 7 (by decide)
          clear hk
          clear hd
          exact Yield.mv rfl ⟨Ext.refl _, e7⟩
        · intro ev wy hp hl hk hd
          have e0 : ev (.tmp 0) = .slice a l.length cap := hk 0 (by decide)
          clear hk
          exact ⟨fun x hx he => (by rw [show x = .bool false from hx] at he; cases he), fun _ _ _ => rfl⟩
        · intro ev wy hp hl hk hd
          have e3 : ev (.tmp 3) = .int .i64 (l.length : Int) := hk 3 (by decide)
          clear hk
          exact ⟨fun x hx he => (by rw [show x = .bool false from hx] at he; cases he), fun _ _ _ => rfl⟩
        · intro ev wy hp hl hk hd
          have e9 : ev (.tmp 9) = undef := hk 9 (by decide)
          have e10 : ev (.tmp 10) = undef := hk 10 (by decide)
          clear hk
          exact ⟨fun x hx he => (by rw [show x = .bool false from hx] at he; cases he), fun _ _ _ => rfl⟩
        · intro ev wy hp hl hk hd
          have e0 : ev (.tmp 0) = .slice a l.length cap := hk 0 (by decide)
          clear hk
          exact ⟨fun x hx he => (by rw [show x = .bool false from hx] at he; cases he), fun _ _ _ => rfl⟩
        · intro ev wy hp hl hk hd
          have e3 : ev (.tmp 3) = .int .i64 (l.length : Int) := hk 3 (by decide)
          clear hk
          exact ⟨fun x hx he => (by rw [show x = .bool false from hx] at he; cases he), fun _ _ _ => rfl⟩
        · intro ev wy hp hl hk hd
          have e12 : ev (.tmp 12) = undef := hk 12 (by decide)
          have e13 : ev (.tmp 13) = undef := hk 13 (by decide)
          clear hk
          exact ⟨fun x hx he => (by rw [show x = .bool false from hx] at he; cases he), fun _ _ _ => rfl⟩
        · intro ev wy hp hl hk hd
          have e14 : ev (.tmp 14) = undef := hk 14 (by decide)
          clear hk
          exact ⟨fun x hx he => (by rw [show x = .bool false from hx] at he; cases he), fun _ _ _ => rfl⟩
        · intro ev wy hp hl hk hd
          have e11 : ev (.tmp 11) = undef := hk 11 (by decide)
          have e15 : ev (.tmp 15) = undef := hk 15 (by decide)
          clear hk
          exact ⟨fun x hx he => (by rw [show x = .bool false from hx] at he; cases he), fun _ _ _ => rfl⟩
        · intro ev wy hp hl hk hd
          have e8 : ev (.tmp 8) = .bool false := hk 8 (by decide)
          have e16 : ev (.tmp 16) = undef := hk 16 (by decide)
          clear hk
          clear hd
          exact Yield.pick (t := false) rfl e8 ⟨Ext.refl _, hp.const _⟩
      · intro vals wz hz hv
        have g4 : vals 0 = .int .i64 (l.length : Int) := hv 0 (by decide)
        have g5 : vals 1 = .slice a l.length cap := hv 1 (by decide)
        have g6 : vals 2 = .int .i64 (l.length : Int) := hv 2 (by decide)
        have g7 : vals 3 = .bool false := hv 3 (by decide)
        have g8 : vals 4 = .bool false := hv 4 (by decide)
        have g9 : vals 5 = undef := hv 5 (by decide)
        have g10 : vals 6 = undef := hv 6 (by decide)
        have g11 : vals 7 = undef := hv 7 (by decide)
        have g12 : vals 8 = undef := hv 8 (by decide)
        have g13 : vals 9 = undef := hv 9 (by decide)
        have g14 : vals 10 = undef := hv 10 (by decide)
        have g15 : vals 11 = undef := hv 11 (by decide)
        have g16 : vals 12 = undef := hv 12 (by decide)
        have g17 : vals 13 = .bool false := hv 13 (by decide)
        clear hv
        simp only [putAll, Act.put, List.setIfInBounds_toArray, List.set_cons_zero, List.set_cons_succ, g4, g5, g6, g7, g8, g9, g10, g11, g12, g13, g14, g15, g16, g17]
        clear g4
        clear g5
        clear g6
        clear g7
        clear g8
        clear g9
        clear g10
        clear g11
        clear g12
        clear g13
        clear g14
        clear g15
        clear g16
        clear g17
        go_wp2_with fail
        go_ret
        exact ⟨by rw [HC.out]; rfl, hE.trans hz⟩

set_option maxHeartbeats 8000000 in
theorem refLast5_any (v : Value) (l : List Ent.E) (n : Int) (w : World) (hv : Ents w v l) (hl : l.length ≤ 4611686018427387904) :
    Calls Try.prog 24 #[v, .int .i64 n] w fun x w' => ∃ u, x = .returned u ∧ Ints w' u (Ent.lastOf l (zeros n)) ∧ Ext w w' := by
  have HV := Lib.hid hv
  obtain ⟨a, cap, rfl, hcap, hmax⟩ := hv.shape
  clear hv
  have hch0 := refChain5_any (.slice a l.length cap) l w HV.out hl
  have hdl0 : (l.take (Ent.chain l)).length = Ent.chain l := by have := Ent.chain_le l; rw [List.length_take]; omega
  obtain ⟨K, d, hcl, hch, hdl, hlo, hget2⟩ : ∃ (K : Nat) (d : List Ent.E) (hcl : K ≤ l.length), (Calls Try.prog 21 #[.slice a l.length cap] w fun x w' => x = .returned (.int .i64 (K : Int)) ∧ Ext w w') ∧ d.length = K ∧ (Ent.lastOf l (zeros n) = match Ent.lastCut d with
    | none => zeros n
    | some c => c) ∧ ∀ (j : Nat) (hj : j < K), ∃ h : j < d.length, d[j] = l[j]'(by omega) := ⟨Ent.chain l, l.take (Ent.chain l), Ent.chain_le l, hch0, hdl0, rfl, fun j hj => ⟨by omega, by simp⟩⟩
  have HCH := Lib.hid hch
  have HLO := Lib.hid hlo
  have HDL := Lib.hid hdl
  have HG2 := Lib.hid hget2
  clear hch hlo hdl hget2 hch0 hdl0
  go_enter Try.func24, Try.ntmps24
  go_wp2_with fail
  refine HCH.out.mono ?_
  rintro e w1 ⟨rfl, hE1⟩
  go_wp2_with fail
  go_loopw [5] (fun i wr => ∃ j : Nat, j ≤ K ∧ i = .int .i64 (prevI j) ∧ Hid (∀ x ∈ d.drop j, x.kind ≠ 1) ∧ Ext w wr) (fun i _ => (intOf i + 1).toNat)
  case atStart => exact ⟨K, Nat.le_refl _, by unfold prevI; rfl, Lib.hid (fun x hx => by rw [← HDL.out, List.drop_length] at hx; cases hx), hE1⟩
  case round =>
    obtain ⟨j, hj, rfl, hbe, hE⟩ := hrel
    cases j with
    | zero =>
      have hi : prevI 0 = -1 := rfl
      rw [hi]
      have hz : Ent.lastOf l (zeros n) = zeros n := by rw [HLO.out, Ent.lastCut_drop hbe.out]
      have HZ := Lib.hid hz
      clear hz
      by_cases h1 : n < 1
      · have hz0 : zeros n = [] := by unfold zeros; rw [if_neg (by omega)]
        have HZ0 := Lib.hid hz0
        clear hz0
        go_wp2_with fail
        go_ret
        exact ⟨_, rfl, by rw [HZ.out, HZ0.out]; exact ints_none _, hE⟩
      · by_cases h8 : (8 : Int) < n
        · have hz0 : zeros n = [] := by unfold zeros; rw [if_neg (by omega)]
          have HZ0 := Lib.hid hz0
          clear hz0
          go_wp2_with fail
          go_ret
          exact ⟨_, rfl, by rw [HZ.out, HZ0.out]; exact ints_none _, hE⟩
        · obtain ⟨z, rfl⟩ : ∃ z : Nat, n = (z : Int) := ⟨n.toNat, by omega⟩
          have hz0 : zeros (z : Int) = List.replicate z 0 := by unfold zeros; rw [if_pos (by omega)]; simp
          have HZ0 := Lib.hid hz0
          have hz1 : z ≤ 9223372036854775807 := by omega
          have hm2 : 8 * z ≤ 281474976710656 := by omega
          have ti := tI
          clear hz0
          go_wp2_with (refine wpList_mkfull rfl (.tmp 30) (.tmp 30) ti rfl wr.heap.size z rfl rfl hm2 (by unfold maxLen; omega) (Nat.le_refl _) ?_; intro w9 hown9 hg9)
          go_ret
          rw [made_zeros] at hown9
          exact ⟨_, rfl, by rw [HZ.out, HZ0.out]; exact Sl.ofOwn hown9, hE.trans ((Below.refl _ wr).grown hg9 (Nat.le_refl _) (fun k hk => by cases hk))⟩
    | succ j =>
      have hi : prevI (j + 1) = (j : Int) := by unfold prevI; omega
      rw [hi]
      have hi2 : ∀ x : Value, x = .int .i64 ((j : Int) - 1) → x = .int .i64 (prevI j) := fun x h => h
      have hlt : j < l.length := by omega
      obtain ⟨a', cap', e', _, _, _, hc⟩ := HV.out.below hE
      obtain ⟨b, off, rfl, tj, p0, p1, p2, p3, p4, p5, htj⟩ := hc j hlt
      injection e' with e1' e2' e3'
      subst e1'
      clear hc e2' e3'
      obtain ⟨a3, cap3, rfl, hcap3, hmax3, _, _⟩ := htj.open
      obtain ⟨hjd, hje⟩ := HG2.out j hj
      have hat := fun hk => Ent.lastCut_at d j hjd hk hbe.out
      have hdk := fun hk => Ent.drop_kinds hjd hk hbe.out
      rw [hje] at hat hdk
      have HTJ := Lib.hid htj
      clear hje
      generalize l[j] = R at *
      obtain ⟨nj, kj, cj, tgj, mj, pj⟩ := R
      simp only at *
      have HAT := Lib.hid hat
      have HDK := Lib.hid hdk
      clear hat hdk htj
      by_cases kj1 : kj = 1
      · subst kj1
        have HG := Lib.hid (show Ent.lastOf l (zeros n) = cj by rw [HLO.out, HAT.out rfl])
        go_wp2_with fail
        go_ret
        exact ⟨_, rfl, by rw [HG.out]; exact HTJ.out, hE⟩
      · have hkb : (kj == 1) = false := beq_eq_false_iff_ne.2 kj1
        have HD := Lib.hid (HDK.out kj1)
        go_wp2_with fail
        go_roundw
        case rel => exact ⟨j, by omega, hi2 _ (by go_num), HD, hE⟩
        case measure => simp [intOf]
end Go.Proofs.Ytboopfbflfimlaa
