/-
 MessageReads: any bytes are read as the message that they are, or refused: for every input the statement's function returns true, and leaves what came in as it was.
-/
import Derived.Test.YtldfpklgbedgjaaGreatMsgW
import Derived.Test.YtldfpklgbedgjaaGreatMsgY
namespace Go.Proofs.YtldfpklgbedgjaaGreat
set_option maxRecDepth 100000
set_option linter.unusedSimpArgs false
set_option linter.unusedVariables false
open Go.ChangeShapes Go.WideShapes Go.ChangeAt Go.RowKit
set_option maxHeartbeats 16000000 in
theorem messageReads_walk (v : Value) (l : List UInt8) (W : World) (hv : Bytes W v l) :
 Calls Tryz.prog 4 #[v] W fun e W' => e = .returned (.bool true) ∧ Below W.heap.size W W' := by
 have HV := Lib.hid hv
 obtain ⟨a, cap, rfl, hcap, hmax, _⟩ := hv.open
 unfold maxLen at hmax
 clear hv
 by_cases hlen : 20000 < (l.length : Int)
 · go_enter Tryz.func4, Tryz.ntmps4
   go_wp2_with fail
   refine (alive7_any _).mono ?_
   rintro e w2 ⟨rfl, hE2⟩
   go_wp2_with fail
   go_ret
   exact ⟨rfl, hE2⟩
 · obtain ⟨D, hD⟩ : ∃ D, Msg.dec Ent.vd l = D := ⟨_, rfl⟩
   have h1 := decode7_any (.slice a l.length cap) l W HV.out (by omega)
   have h2 := fun w hw => refDecode7_any (.slice a l.length cap) l w hw (by omega)
   rw [hD] at h1
   simp only [hD] at h2
   have H2 := Lib.hid h2
   obtain ⟨er, her⟩ : ∃ er, errOf7 D = er := ⟨_, rfl⟩
   obtain ⟨m, hm⟩ : ∃ m, msgOf7 D = m := ⟨_, rfl⟩
   rw [her, hm] at h1
   have H2' := Lib.hid (show ∀ w, Bytes w (.slice a l.length cap) l → Calls Tryz.prog 17 #[.slice a l.length cap] w fun x w' => ∃ u, x = .returned (.tuple #[u, .int .i64 er]) ∧ IsMsg w' u m ∧ Ext w w' from fun w hw => by have := H2.out w hw; rw [her, hm] at this; exact this)
   clear hD h2 H2 her hm
   go_enter Tryz.func4, Tryz.ntmps4
   go_wp2_with fail
   refine h1.mono ?_
   clear h1
   rintro e w1 ⟨u1, rfl, hu1, hE1⟩
   obtain ⟨a0, n0, k0, a1, n1, k1, a2, n2, k2, a3, n3, k3, rfl, g1, g2, g3, g4⟩ := hu1.opened
   have G1 := Lib.hid (And.intro g1 (And.intro g2 (And.intro g3 g4)))
   have HE1 := Lib.hid hE1
   clear hu1 g1 g2 g3 g4 hE1
   go_wp2_with (first
    | (refine allocM (by rfl) rfl ?_; intro W2 q2 hat2 hE2 hq2)
    | (refine putM (m2 := m) (by rfl) _ _ rfl rfl rfl hat2.out ⟨_, _, _, rfl⟩ ⟨_, _, _, rfl⟩ ⟨_, _, _, rfl⟩ ⟨_, _, _, rfl⟩ ?_; intro W3 hat3 hB3))
   have hn2 := hq2.out
   have E13 : Ext w1 W3 := Below.trans (B := w1.heap.size) hE2.out (hB3.out.below (by omega) hE2.out.size)
   have e3 := Lib.hid (HE1.out.trans E13)
   have M3 := Lib.hid (show Msg7 45 W3 q2 m (.slice a0 n0 k0) (.slice a1 n1 k1) (.slice a2 n2 k2) (.slice a3 n3 k3) from ⟨hat3.out, G1.out.1.below E13, G1.out.2.1.below E13, G1.out.2.2.1.below E13, G1.out.2.2.2.below E13⟩)
   clear hn2 E13 hat2 hat3 hE2 hB3 hq2
   refine (H2'.out _ (HV.out.below e3.out)).mono ?_
   rintro e w4 ⟨u4, rfl, hu4, hE4⟩
   obtain ⟨b0, o0, j0, b1, o1, j1, b2, o2, j2, b3, o3, j3, rfl, g1, g2, g3, g4⟩ := hu4.opened
   have G4 := Lib.hid (And.intro g1 (And.intro g2 (And.intro g3 g4)))
   have M4 := Lib.hid (M3.out.ext hE4)
   have e4 := Lib.hid (e3.out.trans hE4)
   clear hu4 g1 g2 g3 g4 hE4
   go_wp2_with (first
    | (refine allocMR (by rfl) rfl ?_; intro W5 q5 hat5 hE5 hq5)
    | (refine putMR (m2 := m) (by rfl) _ _ rfl rfl rfl hat5.out ⟨_, _, _, rfl⟩ ⟨_, _, _, rfl⟩ ⟨_, _, _, rfl⟩ ⟨_, _, _, rfl⟩ ?_; intro W6 hat6 hB6))
   have hn5 := hq5.out
   have E46 : Ext w4 W6 := Below.trans (B := w4.heap.size) hE5.out (hB6.out.below (by omega) hE5.out.size)
   have e6 := Lib.hid (e4.out.trans E46)
   have N6 := Lib.hid (show Msg7 35 W6 q5 m (.slice b0 o0 j0) (.slice b1 o1 j1) (.slice b2 o2 j2) (.slice b3 o3 j3) from ⟨hat6.out, G4.out.1.below E46, G4.out.2.1.below E46, G4.out.2.2.1.below E46, G4.out.2.2.2.below E46⟩)
   have M6 := Lib.hid (M4.out.ext E46)
   clear hn5 E46 hat5 hat6 hE5 hB6 hq5
   refine wp_region_facts (by kernel_rfl) Ext (fun iop v w => match iop with
    | 0 => v = .bool true
    | 1 => v = .bool true
    | 2 => v = .agg (msgCells m (.slice a0 n0 k0) (.slice a1 n1 k1) (.slice a2 n2 k2) (.slice a3 n3 k3))
    | 3 => IsMsg w v m
    | 4 => v = .agg (msgCells m (.slice b0 o0 j0) (.slice b1 o1 j1) (.slice b2 o2 j2) (.slice b3 o3 j3))
    | 5 => v = .bool true
    | 6 => v = .bool true
    | 7 => v = .bool true
    | 8 => v = .int .i64 er
    | 9 => v = .int .i64 er
    | 10 => v = .bool true
    | 11 => v = .bool true
    | _ => v = .bool true
    ) (by kernel_rfl) (fun _ _ _ h k => Ext.trans h k) (fun a => Ext.refl a) (Ext.drew _) ?_ ?_ ?_
   · intro iop v wa wb hF hL
     iterate 3 (rcases iop with _ | iop; exact hF)
     rcases iop with _ | iop; (first | exact hF | exact IsMsg.below hF hL)
     iterate 8 (rcases iop with _ | iop; exact hF)
     exact hF
   · refine Obls.cons ?_ (Obls.cons ?_ (Obls.cons ?_ (Obls.cons ?_ (Obls.cons ?_ (Obls.cons ?_ (Obls.cons ?_ (Obls.cons ?_ (Obls.cons ?_ (Obls.cons ?_ (Obls.cons ?_ (Obls.cons ?_ (Obls.cons ?_ (Obls.nil)))))))))))))
     · intro ev wy hp hl hk hd
       clear hk hd
       refine Yield.call rfl hp Tryz.func10 rfl (by kernel_rfl) ?_
       simp only [List.map_toArray, List.map_nil]
       exact ((alive7_any _)).mono fun _ _ ⟨he, hb⟩ => ⟨_, he, hb, by first | rfl | simp⟩
     · intro ev wy hp hl hk hd
       have e21 : ev (.tmp 21) = .bool true := hk 21 (by decide)
       clear hk hd
       exact Yield.mv rfl ⟨Ext.refl _, e21⟩
     · intro ev wy hp hl hk hd
       have e3 : ev (.tmp 3) = .pointer (some ⟨q2, 0, none⟩) := hk 3 (by decide)
       clear hk
       refine ⟨fun _ _ _ => ?_, fun _ hx hne => absurd hx hne⟩
       clear hd
       exact Yield.load rfl e3 (M6.out.ext hl).ld ⟨Ext.refl _, rfl⟩
     · intro ev wy hp hl hk hd
       have e23 : ev (.tmp 23) = .agg (msgCells m (.slice a0 n0 k0) (.slice a1 n1 k1) (.slice a2 n2 k2) (.slice a3 n3 k3)) := hk 23 (by decide)
       clear hk
       refine ⟨fun _ _ _ => ?_, fun _ hx hne => absurd hx hne⟩
       clear hd
       refine Yield.call rfl hp Tryz.func19 rfl (by kernel_rfl) ?_
       simp only [List.map_toArray, List.map_cons, List.map_nil, e23]
       exact (plain7_any _ m _ (M6.out.ext hl).isMsg).mono fun e w' ⟨u, he, hu, hE⟩ => ⟨u, he, hE, hu⟩
     · intro ev wy hp hl hk hd
       have e5 : ev (.tmp 5) = .pointer (some ⟨q5, 0, none⟩) := hk 5 (by decide)
       clear hk
       refine ⟨fun _ _ _ => ?_, fun _ hx hne => absurd hx hne⟩
       clear hd
       exact Yield.load rfl e5 (N6.out.ext hl).ldR ⟨Ext.refl _, rfl⟩
     · intro ev wy hp hl hk hd
       have f24 : (fun (v : Value) (w : World) => IsMsg w v m) (ev (.tmp 24)) wy := hk 24 (by decide)
       generalize hx24 : ev (.tmp 24) = x24 at *
       have e25 : ev (.tmp 25) = .agg (msgCells m (.slice b0 o0 j0) (.slice b1 o1 j1) (.slice b2 o2 j2) (.slice b3 o3 j3)) := hk 25 (by decide)
       clear hk
       refine ⟨fun _ _ _ => ?_, fun _ hx hne => absurd hx hne⟩
       clear hd
       refine Yield.call rfl hp Tryz.func18 rfl (by kernel_rfl) ?_
       simp only [List.map_toArray, List.map_cons, List.map_nil, hx24, e25]
       exact ((Msg.alike_self m ▸ refSame7_any _ _ m m _ f24 (N6.out.ext hl).isMsg)).mono fun _ _ ⟨he, hb⟩ => ⟨_, he, hb, by first | rfl | simp⟩
     · intro ev wy hp hl hk hd
       have e22 : ev (.tmp 22) = .bool true := hk 22 (by decide)
       have e26 : ev (.tmp 26) = .bool true := hk 26 (by decide)
       clear hk hd
       exact Yield.pick (t := true) rfl e22 ⟨Ext.refl _, e26⟩
     · intro ev wy hp hl hk hd
       have e27 : ev (.tmp 27) = .bool true := hk 27 (by decide)
       clear hk hd
       exact Yield.mv rfl ⟨Ext.refl _, e27⟩
     · intro ev wy hp hl hk hd
       have e4 : ev (.tmp 4) = .int .i64 er := hk 4 (by decide)
       clear hk
       refine ⟨fun _ _ _ => ?_, fun _ hx hne => absurd hx hne⟩
       clear hd
       exact Yield.mv rfl ⟨Ext.refl _, e4⟩
     · intro ev wy hp hl hk hd
       have e6 : ev (.tmp 6) = .int .i64 er := hk 6 (by decide)
       clear hk
       refine ⟨fun _ _ _ => ?_, fun _ hx hne => absurd hx hne⟩
       clear hd
       exact Yield.mv rfl ⟨Ext.refl _, e6⟩
     · intro ev wy hp hl hk hd
       have e29 : ev (.tmp 29) = .int .i64 er := hk 29 (by decide)
       have e30 : ev (.tmp 30) = .int .i64 er := hk 30 (by decide)
       clear hk
       refine ⟨fun _ _ _ => ?_, fun _ hx hne => absurd hx hne⟩
       clear hd
       exact Yield.op (v := .bool true) (w' := wy) (by simp [execOp, go_sem, e29, e30]) ⟨Ext.refl _, rfl⟩
     · intro ev wy hp hl hk hd
       have e28 : ev (.tmp 28) = .bool true := hk 28 (by decide)
       have e31 : ev (.tmp 31) = .bool true := hk 31 (by decide)
       clear hk hd
       exact Yield.pick (t := true) rfl e28 ⟨Ext.refl _, e31⟩
     · intro ev wy hp hl hk hd
       have e32 : ev (.tmp 32) = .bool true := hk 32 (by decide)
       clear hk hd
       exact Yield.as rfl ⟨Ext.refl _, e32⟩
   · intro vals wz hz hv
     have g21 : vals 0 = .bool true := hv 0 (by decide)
     have g22 : vals 1 = .bool true := hv 1 (by decide)
     have g23 : vals 2 = .agg (msgCells m (.slice a0 n0 k0) (.slice a1 n1 k1) (.slice a2 n2 k2) (.slice a3 n3 k3)) := hv 2 (by decide)
     have g24 : (fun (v : Value) (w : World) => IsMsg w v m) (vals 3) wz := hv 3 (by decide)
     have g25 : vals 4 = .agg (msgCells m (.slice b0 o0 j0) (.slice b1 o1 j1) (.slice b2 o2 j2) (.slice b3 o3 j3)) := hv 4 (by decide)
     have g26 : vals 5 = .bool true := hv 5 (by decide)
     have g27 : vals 6 = .bool true := hv 6 (by decide)
     have g28 : vals 7 = .bool true := hv 7 (by decide)
     have g29 : vals 8 = .int .i64 er := hv 8 (by decide)
     have g30 : vals 9 = .int .i64 er := hv 9 (by decide)
     have g31 : vals 10 = .bool true := hv 10 (by decide)
     have g32 : vals 11 = .bool true := hv 11 (by decide)
     have g2 : vals 12 = .bool true := hv 12 (by decide)
     clear hv
     simp only [putAll, Act.put, List.setIfInBounds_toArray, List.set_cons_zero, List.set_cons_succ, g21, g22, g23, g25, g26, g27, g28, g29, g30, g31, g32, g2]
     clear g21
     clear g22
     clear g23
     generalize vals 3 = v24 at *
     clear g25
     clear g26
     clear g27
     clear g28
     clear g29
     clear g30
     clear g31
     clear g32
     clear g2
     go_wp2_with fail
     go_ret
     exact ⟨rfl, e6.out.trans hz⟩
namespace messageReads
theorem own : ownKnob Tryz.prog.godebug = none := by kernel_rfl
theorem laidOut : laidOutB Tryz.prog = true := by kernel_rfl
set_option linter.unusedVariables false in
set_option maxRecDepth 100000 in
theorem lifted (os : Os) (started : os.Started) (H : Type) (enc : TypeId × Value → H) :
 ReturnsInHanded {} Tryz.checked os 4 .any (Rows.messageReadsSpec.pre6 enc Tryz.prog Tryz.f4 Rows.messageReadsRow.domain false) (Rows.messageReadsSpec.post enc Tryz.prog Tryz.f4 false true false false) := by
 refine returnsInHanded_of_change_sized (C := Tryz.checked) own started (by kernel_rfl) Tryz.func4
  (ChangeSpec.witness6 (enc := enc) (C := Tryz.checked) false ⟨#[], #[.slice none 0 0], []⟩ 8 (by kernel_rfl) (by kernel_rfl) (by kernel_rfl) (by kernel_rfl)) ?_
 intro W base args ds gs before hval0 hW hcnd hsz _
 have hval : ∀ (j : Nat) t v, Tryz.f4.params[j]? = some t → args[j]? = some v → Value.okWide Tryz.prog W .any base t v := hval0
 have hW' := hW
 obtain ⟨p, q, hA0, hV, rfl, hfz, hnd⟩ := hW'
 have hA : DataW.TrodAll enc Tryz.prog W 0 (fun _ => true) true Tryz.f4.params.toList args.toList ds p := hA0
 rw [Tryz.params4] at hA hval
 obtain ⟨v0, vs0, d0, ds0, p0, q0, hargs, rfl, rfl, h0, r0⟩ := trodAll_cons hA
 obtain ⟨rfl, rfl, rfl⟩ := trodAll_nil r0
 obtain rfl : args = #[v0] := by cases args; simp_all
 obtain ⟨rfl, rfl⟩ := trodVars_none hV
 have k0 := h0
 have lt0 : ∀ x ∈ p0, x.block < W.heap.size := by obtain ⟨m, hm⟩ := k0; exact DataW.trod_lt m _ _ _ hm
 obtain ⟨a0, len0, cap0, rfl⟩ := okWide_slice Tryz.underlying38 (hval 0 38 v0 rfl rfl)
 obtain ⟨l0, w0⟩ : ∃ l, Bytes W (.slice a0 len0 cap0) l := by
  obtain ⟨fuel, hf⟩ := h0
  obtain ⟨v, l, hcs, hb⟩ := bytes_of_raw Tryz.underlying38 Tryz.underlying5 (by kernel_rfl) hf
  simp [Value.cells] at hcs
  subst hcs
  exact ⟨l, hb⟩
 have sz0 : len0 * 1 ≤ 140737488351232 := by obtain ⟨fuel, hf⟩ := h0; exact reach_of_raw (P := Tryz.prog) (x := (d0, p0)) (j := 0) hsz (by rw [Tryz.params4]; rfl) rfl Tryz.underlying38 (by kernel_rfl) hf
 clear hA0 hval0
 refine (messageReads_walk _ l0 W w0).mono fun e W' ⟨he, bel⟩ => ?_
 subst he
 exact ⟨_, rfl, _, _, _, [], _, [], hW, trodAll_mk1 (shut_bool Tryz.underlying4 _), (trodAll_cons_mk (Below.trod laidOut (by kernel_rfl) (of_decide_eq_true (by kernel_rfl)) k0 bel lt0) trodAll_mk0), rfl, bel.frame _, fun h => by cases h⟩
theorem over : Rows.messageReadsRow.holds Tryz.pinned (OpenSpec.ofChange Rows.messageReadsSpec) :=
 OpenClaim.holds_of_wide 4 Tryz.f4 rfl rfl rfl rfl rfl rfl rfl ⟨rfl, rfl, rfl, rfl, rfl⟩ rfl rfl rfl rfl rfl (by kernel_rfl) Tryz.func4 (by kernel_rfl)
  (of_decide_eq_true (by kernel_rfl)) (by unfold Func.isWrapper; first | (rw [if_pos (by decide +kernel)]; kernel_rfl) | (rw [if_neg (by decide +kernel)]; exact ⟨rfl, rfl⟩))
  (fun os started H enc _ => lifted os started H enc)
theorem proved : Rows.MessageReadsSaid := over
end messageReads
end Go.Proofs.YtldfpklgbedgjaaGreat
