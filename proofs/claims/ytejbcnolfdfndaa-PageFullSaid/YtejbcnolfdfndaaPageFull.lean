/-
  PageFull: a store never has more than it may; what is too much is refused, and changes nothing: for every input the statement's function returns true, and leaves what came in as it was.
-/
import Derived.Test.YtejbcnolfdfndaaPgV
import Derived.Test.YtejbcnolfdfndaaRead
import Derived.Test.YtejbcnolfdfndaaPackRaw
import Derived.Test.YtejbcnolfdfndaaRows
namespace Go.Proofs.Ytejbcnolfdfndaa
set_option linter.unusedSimpArgs false
set_option linter.unusedVariables false
open Go.ChangeShapes Go.WideShapes Go.ChangeAt Go.RowKit

theorem Appended.bytesU {w w' : World} {base p : Nat} {va vp va' vp' : Value} {S : Page.St} {b : List UInt8} (h : Appended w base p va vp S b w' va' vp') (hs : IsSto w base p va vp S) {v : Value} {l : List UInt8} (hv : BytesU w v l)
    (ha : ∀ ad n c, v = .slice (some ad) n c → va.ownBlock ≠ some ad.block) : BytesU w' v l ∧ ∀ ad n c, v = .slice (some ad) n c → va'.ownBlock ≠ some ad.block := by
  have hkeep : ∀ ad n c, v = .slice (some ad) n c → w'.heap[ad.block]? = w.heap[ad.block]? ∧ ad.block < w.heap.size := by
    intro ad n c e
    obtain ⟨cs, fr, hq⟩ := hv.2 ad n c e
    have hlt := (Array.getElem?_eq_some_iff.1 hq).1
    refine ⟨h.block _ hlt ?_ (fun e2 => ha ad n c e e2.symm) (rowBeside hs.places hq (by decide)), hlt⟩
    intro e2
    rw [e2, hs.heap] at hq
    simp at hq
  refine ⟨⟨?_, fun ad n c e => ?_⟩, fun ad n c e => ?_⟩
  · obtain ⟨ad, cap, e, h1, h2, h4, h3⟩ := hv.1
    refine ⟨ad, cap, e, h1, h2, h4, fun i hi => ?_⟩
    obtain ⟨q, off, e2, hc⟩ := h3 i hi
    subst e2
    exact ⟨q, off, rfl, (World.cell?_of_block (a := ⟨q, off + i, none⟩) (hkeep _ _ _ e).1).trans hc⟩
  · obtain ⟨cs, fr, hq⟩ := hv.2 ad n c e
    exact ⟨cs, fr, (hkeep ad n c e).1.trans hq⟩
  · intro e2
    rcases h.newA with hn | hn | hn
    · rw [hn] at e2
      exact ha ad n c e e2
    · rw [hn] at e2
      exact ha ad n c e e2
    · have := hn _ e2
      have := (hkeep ad n c e).2
      omega

theorem made_zeros (L : Nat) : (madeCells (Value.int .u8 0).cells (L * 1)).toList = u8s (List.replicate L 0) := by
  simp only [madeCells, u8s, Value.cells, Nat.mul_one, Array.toList_map, Array.toList_range, List.map_replicate]
  apply List.ext_getElem
  · simp
  · intro i h1 h2
    simp [Nat.mod_one]
theorem num_six {n : Nat} (h : n ≤ 70000) : (Pack.num n).length ≤ 6 := Pack.num_length_lt 5 n (Nat.lt_of_le_of_lt h (by decide))

set_option maxRecDepth 100000 in
set_option maxHeartbeats 4000000 in
theorem pageFull_walk (many long : Int) (W : World) :
    Calls Try.prog 7 #[.int .i64 many, .int .i64 long] W fun e W' => e = .returned (.bool true) ∧ Below W.heap.size W W' := by
  by_cases hbad : many < 0 ∨ 30 < many ∨ long < 0 ∨ 70000 < long
  · have hend : ∀ w1, Ext W w1 → Calls Try.prog 11 #[] w1 fun e w' => e = .returned (.bool true) ∧ Ext W w' := fun w1 h => (alive8_any w1).mono fun e w' ⟨he, hE⟩ => ⟨he, h.trans hE⟩
    have HEND := Lib.hid hend
    clear hend
    go_enter Try.func7, Try.ntmps7
    go_wp2_with fail
    refine (new8_any (.slice none 0 0) [] W (bytes_none W)).mono ?_
    rintro e w1 ⟨va1, vp1, rfl, hs1, hE1⟩
    by_cases h1 : many < 0
    · go_wp2_with fail
      refine (HEND.out w1 hE1).mono ?_
      rintro e w2 ⟨rfl, hE2⟩
      go_wp2_with fail
      go_ret
      exact ⟨rfl, hE2⟩
    · by_cases h2 : 30 < many
      · go_wp2_with fail
        refine (HEND.out w1 hE1).mono ?_
        rintro e w2 ⟨rfl, hE2⟩
        go_wp2_with fail
        go_ret
        exact ⟨rfl, hE2⟩
      · by_cases h3 : long < 0
        · go_wp2_with fail
          refine (HEND.out w1 hE1).mono ?_
          rintro e w2 ⟨rfl, hE2⟩
          go_wp2_with fail
          go_ret
          exact ⟨rfl, hE2⟩
        · have h4 : 70000 < long := by omega
          go_wp2_with fail
          refine (HEND.out w1 hE1).mono ?_
          rintro e w2 ⟨rfl, hE2⟩
          go_wp2_with fail
          go_ret
          exact ⟨rfl, hE2⟩
  · obtain ⟨m, rfl⟩ : ∃ m : Nat, many = (m : Int) := ⟨many.toNat, by omega⟩
    obtain ⟨L, rfl⟩ : ∃ L : Nat, long = (L : Int) := ⟨long.toNat, by omega⟩
    have hm30 : m ≤ 30 := by omega
    have hL70 : L ≤ 70000 := by omega
    have hm0 : ¬ (m : Int) < 0 := by omega
    have hL0 : ¬ (L : Int) < 0 := by omega
    have hm31 : ¬ (30 : Int) < (m : Int) := by omega
    have hL71 : ¬ (70000 : Int) < (L : Int) := by omega
    clear hbad
    go_enter Try.func7, Try.ntmps7
    go_wp2_with fail
    refine (new8_any (.slice none 0 0) [] W (bytes_none W)).mono ?_
    rintro e w1 ⟨va1, vp1, rfl, hs1, hE1⟩
    rw [Page.fromBytes_nil] at hs1
    go_wp2_with (at_make; refine wpList_mkfull rfl _ _ tB8 rfl w1.heap.size L rfl rfl ?k1 ?k2 ?k3 ?_; rotate_right; intro w2 hown2 hg2)
    case k1 => omega
    case k2 => unfold maxLen; omega
    case k3 => omega
    rw [made_zeros] at hown2
    have hE12 : Ext w1 w2 := ⟨hg2.os, hg2.tape, hg2.output, hg2.size, fun k hk => hg2.block k hk (by simp)⟩
    have hs2 := hs1.ext hE12
    have hb0l : (List.replicate L (0 : UInt8)).length = L := by simp
    obtain ⟨b0, hb0⟩ : ∃ b0, List.replicate L (0 : UInt8) = b0 := ⟨_, rfl⟩
    rw [hb0] at hown2 hb0l
    have hbu : BytesU w2 (.slice (some ⟨w1.heap.size, 0, none⟩) L L) b0 := by
      have := BytesU.own (l := b0) (by rw [hb0l]; exact hown2)
      exact this
    have has : ∀ ad n c, (Value.slice (some ⟨w1.heap.size, 0, none⟩) L L) = .slice (some ad) n c → va1.ownBlock ≠ some ad.block := by
      intro ad n c e
      injection e with e
      injection e with e
      subst e
      intro e2
      have := (hs1.all.lt _ e2).2
      simp at this
    have hnum := num_six (n := L) hL70
    have HL := Lib.hid hb0l
    have hE2 : Ext W w2 := hE1.trans hE12
    obtain ⟨q, hq⟩ : ∃ q, w1.heap.size = q := ⟨_, rfl⟩
    rw [hq] at hbu has ⊢
    clear hs1 hown2 hg2 hb0 hb0l hq hE12 hE1
    go_loopw [37] (fun i wr => ∃ (k : Nat) (S : Page.St) (va vp : Value), k ≤ m ∧ i = .int .i64 k ∧ Hid (IsSto wr W.heap.size W.heap.size va vp S ∧ S.off = false ∧ BytesU wr (.slice (some ⟨q, 0, none⟩) L L) b0 ∧ (∀ ad n c, (Value.slice (some ⟨q, 0, none⟩) L L) = .slice (some ad) n c → va.ownBlock ≠ some ad.block) ∧ Ext W wr)) (fun i _ => m - (intOf i).toNat)
    case atStart => exact ⟨0, _, _, _, by omega, rfl, Lib.hid ⟨hs2, rfl, hbu, has, hE2⟩⟩
    case round =>
      obtain ⟨k, S, va, vp, hk, rfl, hI⟩ := hrel
      clear hs2 hbu has hE2
      by_cases hlt : k < m
      · go_wp2_with fail
        refine (len8_any hI.out.1).mono ?_
        rintro e w3 ⟨rfl, rfl⟩
        go_wp2_with fail
        refine (append8_any hI.out.1 hI.out.2.2.2.2.size _ b0 hI.out.2.2.1.1 (by rw [HL.out]; omega)).mono ?_
        rintro e w3 ⟨rfl, va', vp', hA⟩
        have hbu3 := hA.bytesU hI.out.1 hI.out.2.2.1 hI.out.2.2.2.1
        have hE3 : Ext W w3 := Below.trans (B := W.heap.size) hI.out.2.2.2.2 (hA.below hI.out.1 (Nat.le_refl _) (Nat.le_refl _) hI.out.2.2.2.2.size)
        have hs3 := hA.sto
        have HS3 := Lib.hid hs3
        have HBU3 := Lib.hid hbu3
        have hmax := hI.out.1.ok.max
        obtain ⟨n, hn⟩ : ∃ n, (Page.bytes S.l).length = n := ⟨_, rfl⟩
        have HN := Lib.hid hn
        have hfl := Page.frame_length b0
        rw [HL.out] at hfl
        obtain ⟨F, hF⟩ : ∃ F, (Page.frame b0).length = F := ⟨_, rfl⟩
        rw [hF] at hfl
        have hF1 : L < F := by omega
        have hF2 : F ≤ L + 10 := by omega
        have HF := Lib.hid hF
        rw [hn] at hmax ⊢
        clear hs3 hbu3 hA hn hfl hF
        by_cases hroom : n + F ≤ 65536
        · have hr : Page.room S b0 = true := by unfold Page.room; rw [HN.out, HF.out]; exact decide_eq_true hroom
          have e1 : S.append b0 = ⟨S.l ++ [b0], S.k, S.off⟩ := by unfold Page.St.append; rw [if_neg (by rw [hI.out.2.1]; simp), if_pos hr]
          have e2 : S.appendErr b0 = 0 := by unfold Page.St.appendErr; rw [if_neg (by rw [hI.out.2.1]; simp), if_pos hr]
          have e3 : S.appendAt b0 = n := by unfold Page.St.appendAt; rw [if_neg (by rw [hI.out.2.1]; simp), if_pos hr]; exact HN.out
          have hl3 : (Page.bytes (S.append b0).l).length = n + F := by rw [e1]; simp only; rw [Page.bytes_snoc, List.length_append, HN.out, HF.out]
          have ho3 : (S.append b0).off = false := by rw [e1]; exact hI.out.2.1
          rw [e2, e3]
          have HL3 := Lib.hid hl3
          have HO3 := Lib.hid ho3
          clear e1 e2 e3 hl3 ho3 hr
          go_wp2_with fail
          refine (len8_any HS3.out).mono ?_
          rintro e w4 ⟨rfl, rfl⟩
          rw [HL3.out]
          have hx1 : ¬ ((n + F : Nat) : Int) ≤ (n : Int) := by omega
          have hx1d : decide (((n + F : Nat) : Int) ≤ (n : Int)) = false := decide_eq_false hx1
          have hx2 : ¬ (65536 : Int) < ((n + F : Nat) : Int) := by omega
          have hx2d : decide ((65536 : Int) < ((n + F : Nat) : Int)) = false := decide_eq_false hx2
          go_wp2_with fail
          refine (len8_any HS3.out).mono ?_
          rintro e w4 ⟨rfl, rfl⟩
          rw [HL3.out]
          go_wp2_with fail
          exact ⟨⟨k + 1, _, va', vp', by omega, rfl, Lib.hid ⟨HS3.out, HO3.out, HBU3.out.1, HBU3.out.2, hE3⟩⟩, by simp [intOf]; omega⟩
        · have hr : Page.room S b0 = false := by unfold Page.room; rw [HN.out, HF.out]; exact decide_eq_false hroom
          have e1 : S.append b0 = S := by unfold Page.St.append; rw [if_neg (by rw [hI.out.2.1]; simp), if_neg (by rw [hr]; simp)]
          have e2 : S.appendErr b0 = 80 := by unfold Page.St.appendErr; rw [if_neg (by rw [hI.out.2.1]; simp), if_neg (by rw [hr]; simp)]
          have e3 : S.appendAt b0 = 0 := by unfold Page.St.appendAt; rw [if_neg (by rw [hI.out.2.1]; simp), if_neg (by rw [hr]; simp)]
          rw [e2, e3]
          rw [e1] at HS3
          clear e1 e2 e3 hr
          go_wp2_with fail
          refine (len8_any HS3.out).mono ?_
          rintro e w4 ⟨rfl, rfl⟩
          rw [HN.out]
          have hx1 : ¬ (n : Int) + (L : Int) + 10 ≤ 65536 := by omega
          have hx1d : decide ((n : Int) + (L : Int) + 10 ≤ 65536) = false := decide_eq_false hx1
          go_wp2_with fail
          exact ⟨⟨k + 1, S, va', vp', by omega, rfl, Lib.hid ⟨HS3.out, hI.out.2.1, HBU3.out.1, HBU3.out.2, hE3⟩⟩, by simp [intOf]; omega⟩
      · obtain rfl : k = m := by omega
        go_wp2_with fail
        refine (alive8_any wr).mono ?_
        rintro e w3 ⟨rfl, hE3⟩
        go_wp2_with fail
        go_ret
        exact ⟨rfl, hI.out.2.2.2.2.trans hE3⟩

namespace pageFull
theorem own : ownKnob Try.prog.godebug = none := by kernel_rfl
theorem laidOut : laidOutB Try.prog = true := by kernel_rfl
set_option linter.unusedVariables false in
set_option maxRecDepth 100000 in
theorem lifted (os : Os) (started : os.Started) (H : Type) (enc : TypeId × Value → H) :
    ReturnsInHanded {} Try.checked os 7 .any (Rows.pageFullSpec.pre6 enc Try.prog Try.f7 Rows.pageFullRow.domain false) (Rows.pageFullSpec.post enc Try.prog Try.f7 false true false false) := by
  refine returnsInHanded_of_change_sized (C := Try.checked) own started (by kernel_rfl) Try.func7
    (ChangeSpec.witness6 (enc := enc) (C := Try.checked) false ⟨#[], #[.int .i64 0, .int .i64 0], []⟩ 8 (by kernel_rfl) (by kernel_rfl) (by kernel_rfl) (by kernel_rfl)) ?_
  intro W base args ds gs before hval0 hW hcnd hsz _
  have hval : ∀ (j : Nat) t v, Try.f7.params[j]? = some t → args[j]? = some v → Value.okWide Try.prog W .any base t v := hval0
  have hW' := hW
  obtain ⟨p, q, hA0, hV, rfl, hfz, hnd⟩ := hW'
  have hA : DataW.TrodAll enc Try.prog W 0 (fun _ => true) true Try.f7.params.toList args.toList ds p := hA0
  rw [Try.params7] at hA hval
  obtain ⟨v0, vs0, d0, ds0, p0, q0, hargs, rfl, rfl, h0, r0⟩ := trodAll_cons hA
  obtain ⟨v1, vs1, d1, ds1, p1, q1, rfl, rfl, rfl, h1, r1⟩ := trodAll_cons r0
  obtain ⟨rfl, rfl, rfl⟩ := trodAll_nil r1
  obtain rfl : args = #[v0, v1] := by cases args; simp_all
  obtain ⟨rfl, rfl⟩ := trodVars_none hV
  have k0 := h0
  have lt0 : ∀ x ∈ p0, x.block < W.heap.size := by obtain ⟨m, hm⟩ := k0; exact DataW.trod_lt m _ _ _ hm
  obtain ⟨a0, rfl, _, _, w0⟩ := open_int Try.underlying3 (hval 0 3 v0 rfl rfl) h0
  have k1 := h1
  have lt1 : ∀ x ∈ p1, x.block < W.heap.size := by obtain ⟨m, hm⟩ := k1; exact DataW.trod_lt m _ _ _ hm
  obtain ⟨a1, rfl, _, _, w1⟩ := open_int Try.underlying3 (hval 1 3 v1 rfl rfl) h1
  clear hA0 hval0
  refine (pageFull_walk a0 a1 W).mono fun e W' ⟨he, bel⟩ => ?_
  subst he
  exact ⟨_, rfl, _, _, _, [], _, [], hW, trodAll_mk1 (shut_bool Try.underlying4 _), (trodAll_cons_mk (Below.trod laidOut (by kernel_rfl) (of_decide_eq_true (by kernel_rfl)) k0 bel lt0) (trodAll_cons_mk (Below.trod laidOut (by kernel_rfl) (of_decide_eq_true (by kernel_rfl)) k1 bel lt1) trodAll_mk0)), rfl, bel.frame _, fun h => by cases h⟩
theorem over : Rows.pageFullRow.holds Try.pinned (OpenSpec.ofChange Rows.pageFullSpec) :=
  OpenClaim.holds_of_wide 7 Try.f7 rfl rfl rfl rfl rfl rfl rfl ⟨rfl, rfl, rfl, rfl, rfl⟩ rfl rfl rfl rfl rfl (by kernel_rfl) Try.func7 (by kernel_rfl)
    (of_decide_eq_true (by kernel_rfl)) (by unfold Func.isWrapper; first | (rw [if_pos (by decide +kernel)]; kernel_rfl) | (rw [if_neg (by decide +kernel)]; exact ⟨rfl, rfl⟩))
    (fun os started H enc _ => lifted os started H enc)
theorem proved : Rows.PageFullSaid := over
end pageFull
end Go.Proofs.Ytejbcnolfdfndaa
