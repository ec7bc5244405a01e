import Derived.Test.YtnoeconcpgdjlaaGreatBsPgE
namespace Go.Proofs.YtnoeconcpgdjlaaGreat
set_option linter.unusedSimpArgs false
set_option linter.unusedVariables false
set_option maxRecDepth 100000
open Go.RowKit
structure IsSto (w : World) (base p : Nat) (va vp : Value) (S : Page.St) : Prop where
 heap : w.heap[p]? = some (.cells #[va, vp, .int .i64 (S.syn : Nat), .bool S.off] 143 (0, 0))
 all : w.ownsRow base 5 1 va (Page.bytes S.l).length (u8s (Page.bytes S.l))
 places : w.ownsRow base 3 1 vp S.l.length (i64s (Page.offs S.l))
 ok : S.Ok
theorem IsSto.lt {w : World} {base p : Nat} {va vp : Value} {S : Page.St} (h : IsSto w base p va vp S) : p < w.heap.size := (Array.getElem?_eq_some_iff.1 h.heap).1
theorem IsSto.lower {w : World} {base base' p : Nat} {va vp : Value} {S : Page.St} (h : IsSto w base p va vp S) (hb : base' <= base) : IsSto w base' p va vp S := ⟨h.heap, zaw h.all hb, zaw h.places hb, h.ok⟩
theorem IsSto.ext {w w' : World} {base p : Nat} {va vp : Value} {S : Page.St} (h : IsSto w base p va vp S) (hE : Ext w w') : IsSto w' base p va vp S := ⟨zad h.heap hE, za0 h.all hE, za0 h.places hE, h.ok⟩
theorem IsSto.open {w : World} {base p : Nat} {va vp : Value} {S : Page.St} (h : IsSto w base p va vp S) : ∃ a c b d, va = .slice a (Page.bytes S.l).length c /\ vp = .slice b S.l.length d := by
 obtain ⟨a, n, c, rfl⟩ := zao h.all
 obtain ⟨b, m, d, rfl⟩ := zao h.places
 have e1 := (BytesU.own h.all).1.len.1
 have h2 : Sl w (.slice b m d) (i64s (Page.offs S.l)) := Sl.ofOwn h.places
 obtain ⟨_, _, e, _⟩ := h2
 injection e with _ e2
 refine ⟨a, c, b, d, by rw [e1], by rw [e2]; simp⟩
theorem ldBy {w : World} {q i : Nat} {a : Option Addr} {n c : Nat} (h : w.cell? ⟨q, i, none⟩ = some (.slice a n c)) : (Instr.loadAt 141 (.pointer (some ⟨q, i, none⟩))).run Tryz.prog w = .ok (.slice a n c) w := by simp [go_sem, h]
section
variable {w : World} {base p : Nat} {va vp : Value} {S : Page.St}
theorem zpr (h : IsSto w base p va vp S) : Calls Tryz.prog 80 #[.pointer (some ⟨p, 0, none⟩)] w fun e w' => e = .returned (.tuple #[]) /\ But p w w' /\ IsSto w' base p va vp S.sync := by
 have H := Hi h
 have hhp := h.heap
 obtain ⟨a, c, b, d, rfl, rfl⟩ := h.open
 have c0 := zaa h.heap 0
 have c2 := zaa h.heap 2
 have f2 := zac h.heap 2
 have c3 := zaa h.heap 3
 clear h
 obtain ⟨l, k, o⟩ := S
 cases o with
 | true =>
  go_enter Tryz.func80, Tryz.ntmps80
  go_wp2
  go_end0
  exact ⟨rfl, But.refl _ _, H.out⟩
 | false =>
  go_enter Tryz.func80, Tryz.ntmps80
  go_wp2
  go_end0
  have hall := H.out.all
  have hpl := H.out.places
  have hs : Page.St.syn (⟨l, l.length, false⟩ : Page.St) = (Page.bytes l).length := by unfold Page.St.syn; simp
  refine ⟨rfl, za2 _ _ _ _, ?_, zbe hall (zaj hall hhp (by decide)) (za2 _ _ _ _), zbe hpl (zaj hpl hhp (by decide)) (za2 _ _ _ _), H.out.ok.sync⟩
  rw [show (Page.St.sync ⟨l, k, false⟩) = ⟨l, l.length, false⟩ from rfl, hs]
  exact heap_setCell hhp 2 _
theorem zkd (h : IsSto w base p va vp S) : Calls Tryz.prog 108 #[.pointer (some ⟨p, 0, none⟩)] w fun e w' => ∃ (es : List Elem) (u : Value), e = .returned u /\ es.map Elem.x = S.l /\ w'.ownsRow w.heap.size 141 1 u es.length (es.map Elem.val) /\ (∀ x ∈ es, x.Good w') /\ Ext w w' := by
 have H := Hi h
 obtain ⟨a, c, b, d, rfl, rfl⟩ := h.open
 have c0 := zaa h.heap 0
 have hb := (BytesU.own h.all).1
 have hl : (Page.bytes S.l).length <= 200000 := by have := h.ok.max; omega
 have HB := Hi hb
 clear h hb
 go_enter Tryz.func108, Tryz.ntmps108
 go_wp2_with fail
 refine (zpb _ _ w HB.out hl).mono ?_
 rintro e w1 ⟨es, u, rfl, h1, h2, h3, h4⟩
 obtain ⟨ua, un, uc, rfl⟩ := zao h2
 rw [Page.scan_all H.out.ok.small] at h1 ⊢
 have H1 := Hi h1
 have H3 := Hi h3
 clear h1 h3
 go_wp2_with fail
 go_ret
 exact ⟨es, _, rfl, H1.out, h2, H3.out, h4⟩
end
theorem zj0 (w : World) : (zeroValue 143).run Tryz.prog w = .ok (.agg (zbt none 0 0 none 0 0 0 false)) w := by kernel_rfl
theorem zny (w : World) : (Instr.box 143 (.agg (zbt none 0 0 none 0 0 0 false))).run Tryz.prog w = .ok (.pointer (some ⟨w.heap.size, 0, none⟩)) (w.alloc (.cells (zbt none 0 0 none 0 0 0 false) 143)) := by kernel_rfl
theorem zto {w a b : World} (h : Ext w a) (hB : But w.heap.size a b) : Ext w b := Below.trans (B := w.heap.size) h ⟨hB.os, hB.tape, hB.output, hB.size, fun k hk => hB.block k (Nat.lt_of_lt_of_le hk h.size) (by omega)⟩
theorem IsSto.loaded {w' : World} {base p : Nat} {va vp : Value} {bs : List UInt8} {o : Bool} (h1 : w'.heap[p]? = some (.cells #[va, vp, .int .i64 ((Page.scan bs).2 : Nat), .bool o] 143 (0, 0))) (h2 : w'.ownsRow base 5 1 va (Page.scan bs).2 (u8s (Page.bytes (Page.scan bs).1)))
 (h3 : w'.ownsRow base 3 1 vp (Page.scan bs).1.length (i64s (Page.offs (Page.scan bs).1))) (hb : bs.length <= 65536) : IsSto w' base p va vp ⟨(Page.scan bs).1, (Page.scan bs).1.length, o⟩ := by
 obtain ⟨q1, q2, q3⟩ := Page.scan_is _ bs (Nat.le_refl _)
 have hs : Page.St.syn ⟨(Page.scan bs).1, (Page.scan bs).1.length, o⟩ = (Page.scan bs).2 := by unfold Page.St.syn; simp [q3]
 refine ⟨by rw [hs]; exact h1, by rw [q3] at h2; exact h2, h3, ⟨q1, Nat.le_refl _, ?_⟩⟩
 show (Page.bytes (Page.scan bs).1).length <= 65536
 rw [q2, List.length_take]
 omega
set_option maxHeartbeats 1000000 in
theorem zlg (v : Value) (bs : List UInt8) (w : World) (hv : Bytes w v bs) :
 Calls Tryz.prog 45 #[v] w fun e w' => ∃ va vp, e = .returned (.pointer (some ⟨w.heap.size, 0, none⟩)) /\ IsSto w' w.heap.size w.heap.size va vp (Page.fromBytes bs) /\ Ext w w' := by
 have HV := Hi hv
 obtain ⟨a, n, c, rfl⟩ := hv.isSlice
 have hln := hv.len
 clear hv
 have h1 := zj0
 have h2 := zny
 generalize hT : zbt none 0 0 none 0 0 0 false = T at h1 h2
 have HT := Hi hT
 clear hT
 obtain ⟨M, hM⟩ : ∃ M, min bs.length 65536 = M := ⟨_, rfl⟩
 have hM1 : M <= n := by omega
 have htk : bs.take M = bs.take 65536 := by
  rw [<- hM]
  rcases Nat.le_total bs.length 65536 with h | h
  . rw [Nat.min_eq_left h, List.take_length, List.take_of_length_le h]
  . rw [Nat.min_eq_right h]
 have HTK := Hi htk
 have hMM : M <= 65536 := by omega
 clear htk
 have key : ∀ K : Nat, K = M -> Calls Tryz.prog 77 #[.pointer (some ⟨w.heap.size, 0, none⟩), .slice a K c] (w.alloc (.cells T 143)) (zfr w.heap.size (.bool false) (w.alloc (.cells T 143)) (bs.take 65536)) := by
  rintro K rfl
  refine ziv w.heap.size none 0 0 none 0 0 0 false _ (bs.take 65536) _ (by rw [HT.out]; exact World.alloc_heap_new _ _) ?_ (by simp; omega)
  rw [<- HTK.out]
  exact (Bytes.below HV.out (Ext.alloc _ _)).take K hM1
 have KEY := Hi key
 have hfin : ∀ e w2, zfr w.heap.size (.bool false) (w.alloc (.cells T 143)) (bs.take 65536) e w2 -> e = .returned (.tuple #[]) /\ ∃ va vp, IsSto w2 w.heap.size w.heap.size va vp (Page.fromBytes bs) /\ Ext w w2 := by
  rintro e w2 ⟨rfl, hB, va, vp, q1, q2, q3⟩
  have hsz : w.heap.size <= (w.alloc (.cells T 143)).heap.size := by simp
  refine ⟨rfl, va, vp, IsSto.loaded q1 (zaw q2 hsz) (zaw q3 hsz) (by simp; omega), ?_⟩
  exact zto (Ext.alloc w _) hB
 have HFIN := Hi hfin
 clear key hfin
 go_enter Tryz.func45, Tryz.ntmps45
 go_wp2_with fail
 all_goals
  refine (KEY.out _ (by omega)).mono ?_
  intro e w2 hg
  obtain ⟨rfl, va, vp, hS, hE⟩ := HFIN.out e w2 hg
  have HSS := Hi hS
  have HEE := Hi hE
  clear hg hS hE
  go_wp2_with fail
  go_ret
  exact ⟨va, vp, rfl, HSS.out, HEE.out⟩
def zgq (p : Nat) (w : World) (S : Page.St) (e : Ending) (w' : World) : Prop := e = .returned (.tuple #[]) /\ But p w w' /\ ∃ va vp, IsSto w' w.heap.size p va vp S
set_option maxHeartbeats 1000000 in
theorem zlt {w : World} {base p : Nat} {va vp : Value} {S : Page.St} (h : IsSto w base p va vp S) (keep : Int) (hk : -9223372036854775808 <= keep /\ keep <= 9223372036854775807) :
 Calls Tryz.prog 78 #[.pointer (some ⟨p, 0, none⟩), .int .i64 keep] w (zgq p w (S.crash keep)) := by
 have H := Hi h
 obtain ⟨a, c, b, d, rfl, rfl⟩ := h.open
 have hhp := h.heap
 have c0 : w.cell? ⟨p, 0, none⟩ = some (.slice a (Page.bytes S.l).length c) := zaa h.heap 0
 have c2 : w.cell? ⟨p, 2, none⟩ = some (.int .i64 (S.syn : Nat)) := zaa h.heap 2
 have hb := (BytesU.own h.all).1
 have hmax := h.ok.max
 have hsy : S.syn <= (Page.bytes S.l).length := Page.syn_le S
 have hlen := hb.len
 have hpart := hb.part0 (S.stay keep) (Page.stay_le S keep)
 have hstl := Page.stay_le S keep
 have hstay : S.stay keep = S.syn + min keep.toNat ((Page.bytes S.l).length - S.syn) := rfl
 have HP := Hi hpart
 obtain ⟨U, hU⟩ : ∃ U, S.syn = U := ⟨_, rfl⟩
 obtain ⟨Z, hZ⟩ : ∃ Z, S.stay keep = Z := ⟨_, rfl⟩
 obtain ⟨n, hn⟩ : ∃ n, (Page.bytes S.l).length = n := ⟨_, rfl⟩
 rw [hU] at c2 hsy hstay
 rw [hn] at c0 hsy hlen hmax hstay hstl
 rw [hZ] at hstay hstl
 have HZ := Hi hZ
 have HN := Hi hn
 have HU := Hi hU
 clear h hb hU hn hZ hpart
 obtain ⟨K, hK⟩ : ∃ K : Int, max keep 0 = K := ⟨_, rfl⟩
 have hKZ : (U : Int) + min K ((n : Int) - (U : Int)) = (Z : Int) := by omega
 go_enter Tryz.func78, Tryz.ntmps78
 go_upto_region 0 with fail
 refine zbf (by kernel_rfl) 18 Ext (fun iop v w => match iop with
  | 0 => v = .pointer (some ⟨p, 0, none⟩)
  | 1 => v = .pointer (some ⟨p, 0, none⟩)
  | 2 => v = .pointer (some ⟨p, 2, none⟩)
  | 3 => v = .int .i64 (U : Nat)
  | 4 => v = .int .i64 keep
  | 5 => v = .int .i64 K
  | 6 => v = .pointer (some ⟨p, 0, none⟩)
  | 7 => v = .pointer (some ⟨p, 0, none⟩)
  | 8 => v = .pointer (some ⟨p, 0, none⟩)
  | 9 => v = .slice a n c
  | 10 => v = .int .i64 (n : Int)
  | 11 => v = .pointer (some ⟨p, 0, none⟩)
  | 12 => v = .pointer (some ⟨p, 0, none⟩)
  | 13 => v = .pointer (some ⟨p, 2, none⟩)
  | 14 => v = .int .i64 (U : Nat)
  | 15 => v = .int .i64 ((n : Int) - (U : Int))
  | 16 => v = .int .i64 (min K ((n : Int) - (U : Int)))
  | _ => v = .int .i64 (Z : Nat)
  ) (by kernel_rfl) (by kernel_rfl) (by decide) (fun _ _ _ h k => Ext.trans h k) (fun a => Ext.refl a) (Ext.drew _) ?_ ?_ ?_
 . intro iop v wa wb hF hL
   iterate 17 (rcases iop with _ | iop; exact hF)
   exact hF
 . refine Obls.cons ?_ (Obls.cons ?_ (Obls.cons ?_ (Obls.cons ?_ (Obls.cons ?_ (Obls.cons ?_ (Obls.cons ?_ (Obls.cons ?_ (Obls.cons ?_ (Obls.cons ?_ (Obls.cons ?_ (Obls.cons ?_ (Obls.cons ?_ (Obls.cons ?_ (Obls.cons ?_ (Obls.cons ?_ (Obls.cons ?_ (Obls.cons ?_ (Obls.nil))))))))))))))))))
   . intro ev wy hp hl hk hd
     have e0 : ev _ = .pointer (some ⟨p, 0, none⟩) := hk 0 (by decide)
     exact Yield.mv rfl ⟨Ext.refl _, e0⟩
   . intro ev wy hp hl hk hd
     have e5 : ev _ = _ := hk 5 (by decide)
     exact Yield.oq (by simp [execOp, go_sem, e5])
   . intro ev wy hp hl hk hd
     have e6 : ev _ = _ := hk 6 (by decide)
     exact Yield.oq (by simp [execOp, go_sem, e6])
   . intro ev wy hp hl hk hd
     have e7 : ev _ = _ := hk 7 (by decide)
     exact Yield.load rfl e7 (ldInt (zbk c2 hl)) ⟨Ext.refl _, rfl⟩
   . intro ev wy hp hl hk hd
     have e1 : ev _ = .int .i64 keep := hk 1 (by decide)
     exact Yield.mv rfl ⟨Ext.refl _, e1⟩
   . intro ev wy hp hl hk hd
     have e9 : ev _ = _ := hk 9 (by decide)
     exact Yield.op (v := .int .i64 K) (w' := wy) (by simp [execOp, go_sem, e9, hp.const] <;> first | omega | (split <;> omega)) ⟨Ext.refl _, rfl⟩
   . intro ev wy hp hl hk hd
     have e0 : ev _ = .pointer (some ⟨p, 0, none⟩) := hk 0 (by decide)
     exact Yield.mv rfl ⟨Ext.refl _, e0⟩
   . intro ev wy hp hl hk hd
     have e11 : ev _ = _ := hk 11 (by decide)
     exact Yield.oq (by simp [execOp, go_sem, e11])
   . intro ev wy hp hl hk hd
     have e12 : ev _ = _ := hk 12 (by decide)
     exact Yield.oq (by simp [execOp, go_sem, e12])
   . intro ev wy hp hl hk hd
     have e13 : ev _ = _ := hk 13 (by decide)
     exact Yield.load rfl e13 (ldBy (zbk c0 hl)) ⟨Ext.refl _, rfl⟩
   . intro ev wy hp hl hk hd
     have e14 : ev _ = _ := hk 14 (by decide)
     exact Yield.oq (by simp [execOp, go_sem, e14])
   . intro ev wy hp hl hk hd
     have e0 : ev _ = .pointer (some ⟨p, 0, none⟩) := hk 0 (by decide)
     exact Yield.mv rfl ⟨Ext.refl _, e0⟩
   . intro ev wy hp hl hk hd
     have e16 : ev _ = _ := hk 16 (by decide)
     exact Yield.oq (by simp [execOp, go_sem, e16])
   . intro ev wy hp hl hk hd
     have e17 : ev _ = _ := hk 17 (by decide)
     exact Yield.oq (by simp [execOp, go_sem, e17])
   . intro ev wy hp hl hk hd
     have e18 : ev _ = _ := hk 18 (by decide)
     exact Yield.load rfl e18 (ldInt (zbk c2 hl)) ⟨Ext.refl _, rfl⟩
   . intro ev wy hp hl hk hd
     have e15 : ev _ = _ := hk 15 (by decide)
     have e19 : ev _ = _ := hk 19 (by decide)
     exact Yield.op (v := .int .i64 ((n : Int) - (U : Int))) (w' := wy) (by simp [execOp, go_sem, e15, e19]; exact IntWalk.i64_in _ (by omega)) ⟨Ext.refl _, rfl⟩
   . intro ev wy hp hl hk hd
     have e10 : ev _ = _ := hk 10 (by decide)
     have e20 : ev _ = _ := hk 20 (by decide)
     exact Yield.op (v := .int .i64 (min K ((n : Int) - (U : Int)))) (w' := wy) (by simp [execOp, go_sem, e10, e20] <;> first | omega | (split <;> omega)) ⟨Ext.refl _, rfl⟩
   . intro ev wy hp hl hk hd
     have e8 : ev _ = _ := hk 8 (by decide)
     have e21 : ev _ = _ := hk 21 (by decide)
     exact Yield.op (v := .int .i64 (Z : Nat)) (w' := wy) (by simp [execOp, go_sem, e8, e21]; rw [hKZ]; exact IntWalk.i64_in _ (by omega)) ⟨Ext.refl _, rfl⟩
 . intro vals wz hz hv
   have g5 : vals 0 = _ := hv 0 (by decide)
   have g6 : vals 1 = _ := hv 1 (by decide)
   have g7 : vals 2 = _ := hv 2 (by decide)
   have g8 : vals 3 = _ := hv 3 (by decide)
   have g9 : vals 4 = _ := hv 4 (by decide)
   have g10 : vals 5 = _ := hv 5 (by decide)
   have g11 : vals 6 = _ := hv 6 (by decide)
   have g12 : vals 7 = _ := hv 7 (by decide)
   have g13 : vals 8 = _ := hv 8 (by decide)
   have g14 : vals 9 = _ := hv 9 (by decide)
   have g15 : vals 10 = _ := hv 10 (by decide)
   have g16 : vals 11 = _ := hv 11 (by decide)
   have g17 : vals 12 = _ := hv 12 (by decide)
   have g18 : vals 13 = _ := hv 13 (by decide)
   have g19 : vals 14 = _ := hv 14 (by decide)
   have g20 : vals 15 = _ := hv 15 (by decide)
   have g21 : vals 16 = _ := hv 16 (by decide)
   have g22 : vals 17 = _ := hv 17 (by decide)
   clear hv
   simp only [List.take_succ_cons, List.take_zero, List.drop_succ_cons, List.drop_zero]
   simp only [zar, Act.put, List.setIfInBounds_toArray, List.set_cons_zero, List.set_cons_succ, g5, g6, g7, g8, g9, g10, g11, g12, g13, g14, g15, g16, g17, g18, g19, g20, g21, g22]
   clear g5 g6 g7 g8 g9 g10 g11 g12 g13 g14 g15 g16 g17 g18 g19 g20 g21 g22
   have d0 := zbk c0 hz
   have hnb : (n : Int) <= 9223372036854775807 := by omega
   have hpz := zad hhp hz
   have hbz := HP.out.below hz
   rw [HZ.out] at hbz
   have hll : ((Page.bytes S.l).take Z).length <= 200000 := by simp; omega
   have hload := ziv p a (Page.bytes S.l).length c b S.l.length d (S.syn : Nat) S.off (.slice a Z Z) ((Page.bytes S.l).take Z) wz hpz hbz hll
   have HL := Hi hload
   clear hload hbz hpz hhp c0 c2 hstay hKZ hK
   go_wp2_with fail
   refine HL.out.mono ?_
   rintro e w2 ⟨rfl, hB, va, vp, q1, q2, q3⟩
   have hs := IsSto.loaded q1 q2 q3 (by simp; omega)
   have hsc : Page.scan ((Page.bytes S.l).take Z) = ((S.crash keep).l, (Page.bytes (S.crash keep).l).length) := by rw [<- HZ.out]; exact Page.scan_stay H.out.ok keep
   obtain ⟨a2, c2', b2, d2, rfl, rfl⟩ := hs.open
   have f3 := zac q1 3
   have c3 := zaa q1 3
   have HSC := Hi hsc
   have HSS := Hi hs
   have HQ := Hi q1
   clear q2 q3 hsc hs q1
   go_wp2_with fail
   go_end0
   have e1 : (Page.scan ((Page.bytes S.l).take Z)).1 = (S.crash keep).l := by rw [HSC.out]
   have e2 : (Page.scan ((Page.bytes S.l).take Z)).2 = (S.crash keep).syn := by rw [HSC.out, Page.crash_syn]
   have q := HQ.out
   have hs := HSS.out
   rw [e2] at q
   have hset := heap_setCell q 3 (.bool false)
   have ha := hs.all
   have hpl := hs.places
   have hbs := za2 w2 p 3 (.bool false)
   refine ⟨rfl, (Ext.but hz p).trans (hB.setCell 3 none _), _, _, ⟨hset, ?_, ?_, H.out.ok.crash keep⟩⟩
   . have := zaw (zbe ha (zaj ha q (by decide)) hbs) hz.size
     rw [<- e1]
     exact this
   . have := zaw (zbe hpl (zaj hpl q (by decide)) hbs) hz.size
     rw [<- e1]
     exact this
end Go.Proofs.YtnoeconcpgdjlaaGreat
