/-
  PackWrites: any parts are written as the document says, or one is refused: for every input of bulk at most 1048576 the statement's function returns true, and leaves what came in as it was.
-/
import Derived.Test.YtkkbjbbmjoacnaaPackRef
import Derived.Test.YtkkbjbbmjoacnaaPackRaw
namespace Go.Proofs.Ytkkbjbbmjoacnaa
open Go.ChangeShapes Go.WideShapes Go.ChangeAt Go.RowKit

theorem oneNum_bytes (p : Pack.Part) (hk : p.kind = 0) : oneNum p.n = p.bytes := by
  unfold oneNum okNum Pack.Part.bytes
  rw [if_pos hk]
  by_cases h : 0 ≤ p.n ∧ p.n ≤ 4611686018427387904
  · rw [if_pos h, decide_eq_true h]; rfl
  · rw [if_neg h, decide_eq_false h]; rfl
theorem text_bytes (p : Pack.Part) (hk : p.kind = 1) (hs : p.s.length ≤ 65536) : Pack.num p.s.length ++ p.s = p.bytes := by
  unfold Pack.Part.bytes
  rw [if_neg (by omega), if_pos hk, if_pos hs]
theorem bool_bytes (p : Pack.Part) (hk : p.kind = 2) : ([if p.is then 1 else 0] : List UInt8) = p.bytes := by
  unfold Pack.Part.bytes
  have h0 : ¬ p.kind = 0 := by omega
  have h1 : ¬ p.kind = 1 := by omega
  rw [if_neg h0, if_neg h1, if_pos hk]
theorem none_bytes (p : Pack.Part) (h0 : p.kind ≠ 0) (h1 : p.kind ≠ 1) (h2 : p.kind ≠ 2) : ([] : List UInt8) = p.bytes := by
  unfold Pack.Part.bytes
  rw [if_neg h0, if_neg h1, if_neg h2]

set_option maxRecDepth 100000 in
set_option maxHeartbeats 4000000 in
theorem writeRef_any (v : Value) (ps : List Pack.Part) (w : World) (h : Parts w v ps) (hm : Pack.mass ps ≤ 20000) :
    Calls Try.prog 31 #[v] w fun e w' => e = .returned (.string ⟨(Pack.written ps).toArray⟩) ∧ Ext w w' := by
  have HP := Lib.hid h
  obtain ⟨a, cap, rfl, h1, h2, h4, h3⟩ := h
  clear h3
  unfold maxLen at h2
  go_enter Try.func31, Try.ntmps31
  go_wp2
  go_loopw [3, 4] (fun s i wr => ∃ (k : Nat) (l : List UInt8), k ≤ ps.length ∧ i = .int .i64 k ∧ s = .string ⟨l.toArray⟩ ∧ Hid (l = Pack.written (ps.take k)) ∧ Ext w wr) (fun _ i _ => ps.length - (intOf i).toNat)
  case atStart => exact ⟨0, [], by omega, rfl, rfl, rfl, Ext.refl _⟩
  case round =>
    obtain ⟨k, l, hk, rfl, rfl, hl, hbr⟩ := hrel
    by_cases hlt : k < ps.length
    · obtain ⟨a', cap', e', _, _, _, hc⟩ := (HP.out.below hbr)
      obtain ⟨b, off, rfl, hcell⟩ := hc k hlt
      injection e' with e1 e2 e3
      subst e1
      obtain ⟨p0, p1, p2, p3, p4⟩ := hcell
      have hlen := bytes_of_take ps k (by omega)
      rw [← hl.out] at hlen
      have hmass := mass_take ps k hlt
      have hs : ps[k].s.length ≤ 20000 := by omega
      have hnext : Pack.written (ps.take (k + 1)) = l ++ ps[k].bytes := by rw [take_succ_getD ps k hlt, Pack.written_snoc, hl.out]
      have HN := Lib.hid hnext
      have hsz := str_len l
      clear hc e2 e3 hnext hl hmass
      have k0' := oneNum_bytes ps[k]
      have k1' := fun (hkk : ps[k].kind = 1) => text_bytes ps[k] hkk (by omega)
      have k2' := bool_bytes ps[k]
      have k3' := none_bytes ps[k]
      generalize ps[k] = P at *
      obtain ⟨K, N, M, S, I⟩ := P
      simp only at p0 p1 p2 p3 p4 hs k0' k1' k2' k3'
      by_cases k0 : K = 0
      · subst k0
        have hb := k0' rfl
        have h9 := oneNum_le N
        have hs1 := str_len (oneNum N)
        have hadd := mk_append l (oneNum N)
        have HB := Lib.hid hb
        clear k0' k1' k2' k3' hb
        go_wp2_with (go_at_call 49; refine (numRef_any N _).mono ?_; rintro e w1 ⟨rfl, hb1⟩)
        go_roundw
        case rel => exact ⟨k + 1, l ++ oneNum N, by omega, by go_num, rfl, by unfold Hid; rw [HN.out, HB.out], hbr.trans hb1⟩
        case measure => simp [intOf]; omega
      · have q0 : (K == 0) = false := by simp [k0]
        by_cases k1 : K = 1
        · subst k1
          have hb := k1' rfl
          have h9 := Pack.num_nine (n := S.length) (by omega)
          have hs1 := str_len (Pack.num S.length ++ S)
          have hs2 : (Pack.num S.length ++ S).length ≤ 30000 := by rw [List.length_append]; omega
          have hadd := mk_append l (Pack.num S.length ++ S)
          have htx := fun w' => textRef_any S w' (by omega)
          generalize Pack.num S.length ++ S = X at *
          have HB := Lib.hid hb
          clear k0' k1' k2' k3' hb k0 q0
          go_wp2_with (go_at_call 50; refine (htx _).mono ?_; rintro e w1 ⟨rfl, hb1⟩)
          go_roundw
          case rel => exact ⟨k + 1, l ++ X, by omega, by go_num, rfl, by unfold Hid; rw [HN.out, HB.out], hbr.trans hb1⟩
          case measure => simp [intOf]; omega
        · have q1 : (K == 1) = false := by simp [k1]
          by_cases k2 : K = 2
          · subst k2
            have hb := k2' rfl
            have hbx := fun w' => boolRef_any I w'
            have hs2 : ([if I then 1 else 0] : List UInt8).length = 1 := rfl
            generalize ([if I then 1 else 0] : List UInt8) = X at *
            have hs1 := str_len X
            have hadd := mk_append l X
            have HB := Lib.hid hb
            clear k0' k1' k2' k3' hb k0 q0 k1 q1
            go_wp2_with (go_at_call 51; refine (hbx _).mono ?_; rintro e w1 ⟨rfl, hb1⟩)
            go_roundw
            case rel => exact ⟨k + 1, l ++ X, by omega, by go_num, rfl, by unfold Hid; rw [HN.out, HB.out], hbr.trans hb1⟩
            case measure => simp [intOf]; omega
          · have q2 : (K == 2) = false := by simp [k2]
            have hb := k3' k0 k1 k2
            have HB := Lib.hid hb
            clear k0' k1' k2' k3' hb k0 k1 k2
            go_wp2
            go_roundw
            case rel => exact ⟨k + 1, l, by omega, by go_num, rfl, by unfold Hid; rw [HN.out, ← HB.out, List.append_nil], hbr⟩
            case measure => simp [intOf]; omega
    · have hall : ps.take k = ps := List.take_of_length_le (by omega)
      rw [hall] at hl
      have e := hl.out
      subst e
      go_wp2
      go_ret
      exact ⟨rfl, hbr⟩
/-- May a part's number be written? -/
def numGood (p : Pack.Part) : Bool := !(p.kind == 0) || okNum p.n
theorem good_num (ps : List Pack.Part) (hm : Pack.mass ps ≤ 65536) : Pack.allGood ps = ps.all numGood := by
  have each : ∀ p ∈ ps, p.good = numGood p := by
    intro p hp
    have hs : p.s.length ≤ 65536 := by
      obtain ⟨i, hi, rfl⟩ := List.getElem_of_mem hp
      have := mass_take ps i hi
      omega
    unfold Pack.Part.good numGood okNum
    by_cases h0 : p.kind = 0
    · simp [h0]
    · rw [if_neg h0]
      simp [h0, hs]
  unfold Pack.allGood
  rw [Bool.eq_iff_iff, List.all_eq_true, List.all_eq_true]
  constructor
  · intro h p hp; rw [← each p hp]; exact h p hp
  · intro h p hp; rw [each p hp]; exact h p hp

set_option maxRecDepth 100000 in
set_option maxHeartbeats 8000000 in
theorem packWrites_walk (a : Option Addr) (n c : Nat) (ps : List Pack.Part) (W : World) (h0 : Parts W (.slice a n c) ps) (hm0 : Pack.mass ps ≤ 1048576) :
    Calls Try.prog 10 #[.slice a n c] W fun e W' => e = .returned (.bool true) ∧ Below W.heap.size W W' := by
  have HP := Lib.hid h0
  obtain ⟨aa, cc, e', hpc, hcm, _, _⟩ := h0
  injection e' with e1 e2 e3
  subst e1 e2 e3
  unfold maxLen at hcm
  by_cases hf : Pack.mass ps ≤ 20000
  · have hfd := decide_eq_true hf
    have hgn := good_num ps (by omega)
    have HF := Lib.hid hfd
    have HG := Lib.hid hgn
    clear hfd hgn
    go_enter Try.func10, Try.ntmps10
    go_wp2_with fail
    refine (few_any _ ps _ HP.out (by omega)).mono ?_
    rintro e w0 ⟨rfl, hb0⟩
    rw [HF.out]
    go_wp2_with fail
    refine (write_any _ ps _ (HP.out.below hb0) (by omega)).mono ?_
    rintro e w1 ⟨a1, n1, c1, rfl, ho1, hb1⟩
    rw [HG.out]
    have hE1 : Ext W w1 := hb0.trans hb1
    have hby1 := ho1.bytes
    clear ho1 hb0 hb1
    go_wp2_with fail
    go_loopw [5, 7, 19] (fun g _ i wr => ∃ (k : Nat) (q : Bool), k ≤ ps.length ∧ i = .int .i64 k ∧ g = .bool q ∧ Hid (q = (ps.take k).all numGood) ∧ Hid (Bytes wr (.slice a1 n1 c1) (Pack.written ps)) ∧ Ext W wr) (fun _ _ i _ => ps.length - (intOf i).toNat)
    case atStart => exact ⟨0, true, by omega, rfl, rfl, rfl, hby1, hE1⟩
    case round =>
      obtain ⟨k, q, hk, rfl, rfl, hq, hby, hbr⟩ := hrel
      clear hby1 hE1
      by_cases hlt : k < ps.length
      · obtain ⟨a', cap', e', _, _, _, hc⟩ := (HP.out.below hbr)
        obtain ⟨b, off, rfl, hcell⟩ := hc k hlt
        injection e' with e1 e2 e3
        subst e1
        obtain ⟨p0, p1, p2, p3, p4⟩ := hcell
        have hnext : (ps.take (k + 1)).all numGood = (q && numGood ps[k]) := by rw [take_succ_getD ps k hlt, List.all_append, ← hq.out]; simp
        have HN := Lib.hid hnext
        clear hc e2 e3 hnext hq
        generalize ps[k] = P at *
        obtain ⟨K, N, M, S, I⟩ := P
        simp only at p0 p1 p2 p3 p4
        cases q with
        | false =>
          go_wp2
          go_roundw
          case rel => exact ⟨k + 1, false, by omega, by go_num, rfl, by unfold Hid; rw [HN.out]; rfl, hby.out.below (Ext.alloc _ _), hbr.trans (Ext.alloc _ _)⟩
          case measure => simp [intOf]; omega
        | true =>
          by_cases k0 : K = 0
          · subst k0
            by_cases hneg : N < 0
            · have hg : numGood ⟨0, N, M, S, I⟩ = false := by unfold numGood okNum; simp; omega
              have HG2 := Lib.hid hg
              have h1 : ¬ 0 ≤ N := by omega
              clear hg
              go_wp2
              go_roundw
              case rel => exact ⟨k + 1, false, by omega, by go_num, rfl, by unfold Hid; rw [HN.out, HG2.out]; rfl, hby.out.below (Ext.alloc _ _), hbr.trans (Ext.alloc _ _)⟩
              case measure => simp [intOf]; omega
            · have h1 : 0 ≤ N := by omega
              by_cases hbig : N ≤ 4611686018427387904
              · have hg : numGood ⟨0, N, M, S, I⟩ = true := by unfold numGood okNum; simp; omega
                have HG2 := Lib.hid hg
                clear hg hneg
                go_wp2
                go_roundw
                case rel => exact ⟨k + 1, true, by omega, by go_num, rfl, by unfold Hid; rw [HN.out, HG2.out]; rfl, hby.out.below (Ext.alloc _ _), hbr.trans (Ext.alloc _ _)⟩
                case measure => simp [intOf]; omega
              · have hg : numGood ⟨0, N, M, S, I⟩ = false := by unfold numGood okNum; simp; omega
                have HG2 := Lib.hid hg
                clear hg hneg
                go_wp2
                go_roundw
                case rel => exact ⟨k + 1, false, by omega, by go_num, rfl, by unfold Hid; rw [HN.out, HG2.out]; rfl, hby.out.below (Ext.alloc _ _), hbr.trans (Ext.alloc _ _)⟩
                case measure => simp [intOf]; omega
          · have q0 : (K == 0) = false := by simp [k0]
            have hg : numGood ⟨K, N, M, S, I⟩ = true := by unfold numGood; simp [k0]
            have HG2 := Lib.hid hg
            clear hg
            go_wp2
            go_roundw
            case rel => exact ⟨k + 1, true, by omega, by go_num, rfl, by unfold Hid; rw [HN.out, HG2.out]; rfl, hby.out.below (Ext.alloc _ _), hbr.trans (Ext.alloc _ _)⟩
            case measure => simp [intOf]; omega
      · have hall : ps.take k = ps := List.take_of_length_le (by omega)
        rw [hall] at hq
        rw [← hq.out]
        have hpw := HP.out.below hbr
        go_wp2_with fail
        refine wp_region_facts (by kernel_rfl) Ext (fun iop v w => match iop with
            | 0 => v = .bool true
            | 1 => v = .bool true
            | 2 => v = .slice a1 n1 c1
            | 3 => v = .string ⟨(Pack.written ps).toArray⟩
            | 4 => v = .slice a ps.length c
            | 5 => v = .string ⟨(Pack.written ps).toArray⟩
            | 6 => v = .bool true
            | 7 => v = .bool true
            | 8 => v = .bool true
            | 9 => v = .bool q
            | 10 => v = .bool q
            | 11 => v = .bool true
            | 12 => v = .bool true
            | _ => v = .bool true
            ) (by kernel_rfl) (fun _ _ _ h k => Ext.trans h k) (fun a => Ext.refl a) (Ext.drew _) ?_ ?_ ?_
        · intro iop v wa wb hF hL
          cases iop with
          | zero => exact hF
          | succ iop =>
            cases iop with
            | zero => exact hF
            | succ iop =>
              cases iop with
              | zero => exact hF
              | succ iop =>
                cases iop with
                | zero => exact hF
                | succ iop =>
                  cases iop with
                  | zero => exact hF
                  | succ iop =>
                    cases iop with
                    | zero => exact hF
                    | succ iop =>
                      cases iop with
                      | zero => exact hF
                      | succ iop =>
                        cases iop with
                        | zero => exact hF
                        | succ iop =>
                          cases iop with
                          | zero => exact hF
                          | succ iop =>
                            cases iop with
                            | zero => exact hF
                            | succ iop =>
                              cases iop with
                              | zero => exact hF
                              | succ iop =>
                                cases iop with
                                | zero => exact hF
                                | succ iop =>
                                  cases iop with
                                  | zero => exact hF
                                  | succ iop =>
                                    exact hF
        · refine Obls.cons ?_ (Obls.cons ?_ (Obls.cons ?_ (Obls.cons ?_ (Obls.cons ?_ (Obls.cons ?_ (Obls.cons ?_ (Obls.cons ?_ (Obls.cons ?_ (Obls.cons ?_ (Obls.cons ?_ (Obls.cons ?_ (Obls.cons ?_ (Obls.cons ?_ (Obls.nil))))))))))))))
          · intro ev wy hp hl hk hd
            clear hk
            clear hd
            refine Yield.call rfl hp Try.func29 rfl (by kernel_rfl) ?_
            simp only [List.map_toArray, List.map_nil]
            exact (packAlive_any _).mono fun _ _ ⟨he, hb⟩ => ⟨_, he, hb, by first | rfl | simp⟩
          · intro ev wy hp hl hk hd
            have e40 : ev (.tmp 40) = .bool true := hk 40 (by decide)
            clear hk
            clear hd
            exact Yield.mv rfl ⟨Ext.refl _, e40⟩
          · intro ev wy hp hl hk hd
            have e3 : ev (.tmp 3) = .slice a1 n1 c1 := hk 3 (by decide)
            clear hk
            refine ⟨fun _ _ _ => ?_, fun _ hx hne => absurd hx hne⟩
            clear hd
            exact Yield.mv rfl ⟨Ext.refl _, e3⟩
          · intro ev wy hp hl hk hd
            have e42 : ev (.tmp 42) = .slice a1 n1 c1 := hk 42 (by decide)
            clear hk
            refine ⟨fun _ _ _ => ?_, fun _ hx hne => absurd hx hne⟩
            clear hd
            exact Yield.conv rfl e42 (run_str _ _ 5 Try.underlying22 Try.underlying5 Try.underlying9 ((hby.out.below hl))) ⟨Ext.refl _, rfl⟩
          · intro ev wy hp hl hk hd
            have e0 : ev (.tmp 0) = .slice a ps.length c := hk 0 (by decide)
            clear hk
            refine ⟨fun _ _ _ => ?_, fun _ hx hne => absurd hx hne⟩
            clear hd
            exact Yield.mv rfl ⟨Ext.refl _, e0⟩
          · intro ev wy hp hl hk hd
            have e44 : ev (.tmp 44) = .slice a ps.length c := hk 44 (by decide)
            clear hk
            refine ⟨fun _ _ _ => ?_, fun _ hx hne => absurd hx hne⟩
            clear hd
            refine Yield.call rfl hp Try.func31 rfl (by kernel_rfl) ?_
            simp only [List.map_toArray, List.map_cons, List.map_nil, e44]
            exact (writeRef_any _ ps _ (hpw.below hl) hf).mono fun _ _ ⟨he, hb⟩ => ⟨_, he, hb, by first | rfl | simp⟩
          · intro ev wy hp hl hk hd
            have e43 : ev (.tmp 43) = .string ⟨(Pack.written ps).toArray⟩ := hk 43 (by decide)
            have e45 : ev (.tmp 45) = .string ⟨(Pack.written ps).toArray⟩ := hk 45 (by decide)
            clear hk
            refine ⟨fun _ _ _ => ?_, fun _ hx hne => absurd hx hne⟩
            clear hd
            exact Yield.op (v := .bool true) (w' := wy) (by simp [execOp, go_sem, e43, e45]) ⟨Ext.refl _, rfl⟩
          · intro ev wy hp hl hk hd
            have e41 : ev (.tmp 41) = .bool true := hk 41 (by decide)
            have e46 : ev (.tmp 46) = .bool true := hk 46 (by decide)
            clear hk
            clear hd
            exact Yield.pick (t := true) rfl e41 ⟨Ext.refl _, e46⟩
          · intro ev wy hp hl hk hd
            have e47 : ev (.tmp 47) = .bool true := hk 47 (by decide)
            clear hk
            clear hd
            exact Yield.mv rfl ⟨Ext.refl _, e47⟩
          · intro ev wy hp hl hk hd
            have e4 : ev (.tmp 4) = .bool q := hk 4 (by decide)
            clear hk
            refine ⟨fun _ _ _ => ?_, fun _ hx hne => absurd hx hne⟩
            clear hd
            exact Yield.mv rfl ⟨Ext.refl _, e4⟩
          · intro ev wy hp hl hk hd
            have e5 : ev (.tmp 5) = .bool q := hk 5 (by decide)
            clear hk
            refine ⟨fun _ _ _ => ?_, fun _ hx hne => absurd hx hne⟩
            clear hd
            exact Yield.mv rfl ⟨Ext.refl _, e5⟩
          · intro ev wy hp hl hk hd
            have e49 : ev (.tmp 49) = .bool q := hk 49 (by decide)
            have e50 : ev (.tmp 50) = .bool q := hk 50 (by decide)
            clear hk
            refine ⟨fun _ _ _ => ?_, fun _ hx hne => absurd hx hne⟩
            clear hd
            exact Yield.op (v := .bool true) (w' := wy) (by simp [execOp, go_sem, e49, e50]) ⟨Ext.refl _, rfl⟩
          · intro ev wy hp hl hk hd
            have e48 : ev (.tmp 48) = .bool true := hk 48 (by decide)
            have e51 : ev (.tmp 51) = .bool true := hk 51 (by decide)
            clear hk
            clear hd
            exact Yield.pick (t := true) rfl e48 ⟨Ext.refl _, e51⟩
          · intro ev wy hp hl hk hd
            have e52 : ev (.tmp 52) = .bool true := hk 52 (by decide)
            clear hk
            clear hd
            exact Yield.as rfl ⟨Ext.refl _, e52⟩
        · intro vals wz hz hv
          have g40 : vals 0 = .bool true := hv 0 (by decide)
          have g41 : vals 1 = .bool true := hv 1 (by decide)
          have g42 : vals 2 = .slice a1 n1 c1 := hv 2 (by decide)
          have g43 : vals 3 = .string ⟨(Pack.written ps).toArray⟩ := hv 3 (by decide)
          have g44 : vals 4 = .slice a ps.length c := hv 4 (by decide)
          have g45 : vals 5 = .string ⟨(Pack.written ps).toArray⟩ := hv 5 (by decide)
          have g46 : vals 6 = .bool true := hv 6 (by decide)
          have g47 : vals 7 = .bool true := hv 7 (by decide)
          have g48 : vals 8 = .bool true := hv 8 (by decide)
          have g49 : vals 9 = .bool q := hv 9 (by decide)
          have g50 : vals 10 = .bool q := hv 10 (by decide)
          have g51 : vals 11 = .bool true := hv 11 (by decide)
          have g52 : vals 12 = .bool true := hv 12 (by decide)
          have g2 : vals 13 = .bool true := hv 13 (by decide)
          clear hv
          simp only [putAll, Act.put, List.setIfInBounds_toArray, List.set_cons_zero, List.set_cons_succ, g40, g41, g42, g43, g44, g45, g46, g47, g48, g49, g50, g51, g52, g2]
          clear g40
          clear g41
          clear g42
          clear g43
          clear g44
          clear g45
          clear g46
          clear g47
          clear g48
          clear g49
          clear g50
          clear g51
          clear g52
          clear g2
          go_wp2_with fail
          go_ret
          exact ⟨rfl, hbr.trans hz⟩
  · have hfd := decide_eq_false hf
    have HF := Lib.hid hfd
    clear hfd hf
    go_enter Try.func10, Try.ntmps10
    go_wp2_with fail
    refine (few_any _ ps _ HP.out (by omega)).mono ?_
    rintro e w0 ⟨rfl, hb0⟩
    rw [HF.out]
    go_wp2_with fail
    refine (packAlive_any _).mono ?_
    rintro e w3 ⟨rfl, hb3⟩
    go_wp2_with fail
    go_ret
    exact ⟨rfl, hb0.trans hb3⟩

namespace packWritesUpto
theorem own : ownKnob Try.prog.godebug = none := by kernel_rfl
theorem laidOut : laidOutB Try.prog = true := by kernel_rfl
set_option linter.unusedVariables false in
set_option maxRecDepth 100000 in
theorem lifted (os : Os) (started : os.Started) (H : Type) (enc : TypeId × Value → H) (F : Stop.Interp) :
    ReturnsInHanded {} Try.checked os 10 .any ((Rows.OpenSpec.upto Rows.packWritesSpec).pre6 enc Try.prog Try.f10 Rows.packWritesUptoRow.domain false) (((Rows.OpenSpec.upto Rows.packWritesSpec).at F).post enc Try.prog Try.f10 false true false false) := by
  refine returnsInHanded_of_cond (C := Try.checked) (s := (Rows.OpenSpec.upto Rows.packWritesSpec)) (k := Rows.uptoSmall) rfl own started (by kernel_rfl) Try.func10
    (OpenSpec.witness (enc := enc) (C := Try.checked) (s := (Rows.OpenSpec.upto Rows.packWritesSpec)) (k := Rows.uptoSmall) rfl false ⟨#[], #[.slice none 0 0], []⟩ 8 (by kernel_rfl) (by kernel_rfl) (by kernel_rfl)
      (x := ([.nil], [], [])) (by kernel_rfl) rfl (by kernel_rfl)) ?_
  intro W base args ds gs before hval0 hW hcnd hbulk0 _
  have hval : ∀ (j : Nat) t v, Try.f10.params[j]? = some t → args[j]? = some v → Value.okWide Try.prog W .any base t v := hval0
  have hW' := hW
  obtain ⟨p, q, hA0, hV, rfl, hfz, hnd⟩ := hW'
  have hA : DataW.TrodAll enc Try.prog W 0 (fun _ => true) true Try.f10.params.toList args.toList ds p := hA0
  rw [Try.params10] at hA hval
  obtain ⟨v0, vs0, d0, ds0, p0, q0, hargs, rfl, rfl, h0, r0⟩ := trodAll_cons hA
  obtain ⟨rfl, rfl, rfl⟩ := trodAll_nil r0
  obtain rfl : args = #[v0] := by cases args; simp_all
  obtain ⟨rfl, rfl⟩ := trodVars_none hV
  have hbulk : Rows.uptoBulkAll [d0] ≤ 1048576 := of_decide_eq_true hbulk0
  simp only [Rows.uptoBulkAll] at hbulk
  have k0 := h0
  have lt0 : ∀ x ∈ p0, x.block < W.heap.size := by obtain ⟨m, hm⟩ := k0; exact DataW.trod_lt m _ _ _ hm
  obtain ⟨a0, len0, cap0, rfl⟩ := okWide_slice Try.underlying42 (hval 0 42 v0 rfl rfl)
  obtain ⟨l0, w0, sz0⟩ : ∃ l, Parts W (.slice a0 len0 cap0) l ∧ Pack.mass l ≤ Rows.uptoBulk d0 := by
    obtain ⟨fuel, hf⟩ := h0
    obtain ⟨v, l, hcs, hb, hm⟩ := parts_of_raw hf
    simp [Value.cells] at hcs
    subst hcs
    exact ⟨l, hb, hm⟩
  clear hA0 hval0
  refine (packWrites_walk a0 len0 cap0 l0 W w0 (by omega)).mono fun e W' ⟨he, bel⟩ => ?_
  subst he
  exact ⟨_, rfl, _, _, _, [], _, [], hW, trodAll_mk1 (shut_bool Try.underlying4 _), (trodAll_cons_mk (Below.trod laidOut (by kernel_rfl) (of_decide_eq_true (by kernel_rfl)) k0 bel lt0) trodAll_mk0), rfl, bel.frame _, fun h => by cases h⟩
theorem over : Rows.packWritesUptoRow.holds Try.pinned (Rows.OpenSpec.upto Rows.packWritesSpec) :=
  OpenClaim.holds_of_cond 10 Try.f10 rfl rfl rfl rfl rfl rfl rfl ⟨rfl, rfl, rfl, rfl, rfl⟩ rfl rfl rfl rfl rfl (by kernel_rfl) Try.func10 (by kernel_rfl)
    (of_decide_eq_true (by kernel_rfl)) (by unfold Func.isWrapper; first | (rw [if_pos (by decide +kernel)]; kernel_rfl) | (rw [if_neg (by decide +kernel)]; exact ⟨rfl, rfl⟩))
    (fun os started H enc _ F => lifted os started H enc F)
theorem proved : Rows.PackWritesUptoSaid := over
end packWritesUpto
end Go.Proofs.Ytkkbjbbmjoacnaa
