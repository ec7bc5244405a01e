/-
  Merged: Layer 12: what may be made next: the closures of Cut and Trim.
-/
import Derived.StillTailTactics
import Derived.Test.YtnoeconcpgdjlaaBsEnt
import Derived.Test.YtnoeconcpgdjlaaBsQuE

namespace Go.Proofs.Ytnoeconcpgdjlaa
set_option linter.unusedSimpArgs false
set_option linter.unusedVariables false
set_option maxRecDepth 100000
open Go.RowKit Go.ChangeMaps
/- Layer 12: what may be made next: the closures of Cut and Trim. -/
set_option maxHeartbeats 8000000 in
theorem cutMay12_any {w : World} {B x q0 q1 : Nat} {S K : Nat → Prop} {p : Quo.Pr} (h : IsPr w B S K x p) (v : Value) (ns : List Int) (h0 : w.heap[q0]? = some (.cells #[.pointer (some ⟨x, 0, none⟩)] 54 (0, 0))) (h1 : w.heap[q1]? = some (.cells #[v] 22 (0, 0))) (hv : Ints w v ns) :
    Calls Try.prog 48 #[.pointer (some ⟨q0, 0, none⟩), .pointer (some ⟨q1, 0, none⟩)] w fun e w' => e = .returned (.bool (p.mayCut p.z ns)) ∧ Ext w w' := by
  obtain ⟨kb, ev, es, h⟩ := h
  obtain ⟨va, vn, vc, rfl⟩ := intsSlice hv
  have hd := Ext.drew w
  have HENT := Lib.hid ((h.at'.ext hd).entsAt)
  obtain ⟨a, c, rfl, _, _, _⟩ := h.at'.open
  have c0 : w.drew.cell? ⟨q0, 0, none⟩ = some (.pointer (some ⟨x, 0, none⟩)) := cell_of_heap (heap_ext h0 hd) 0
  have c3 : w.drew.cell? ⟨x, 3, none⟩ = some (.slice a es.length c) := cell_of_heap (h.at'.ext hd).heap 3
  have c1 : w.drew.cell? ⟨x, 1, none⟩ = some (.int .i64 (p.c.shards.length : Nat)) := cell_of_heap (h.at'.ext hd).heap 1
  have HV := Lib.hid (And.intro h1 hv)
  have HD := Lib.hid hd
  clear h h0 h1 hv hd
  go_enter Try.func48, Try.ntmps48
  go_wp2_with fail
  go_still_tail 8, (by kernel_rfl)
  change wpList _ _ _ _ _ w.drew
  go_wp2_with fail
  refine (last5_any _ p.l (p.c.shards.length : Nat) w.drew HENT.out).mono ?_
  rintro e w2 ⟨u, rfl, hu, hE2⟩
  obtain ⟨ua, un, uc, rfl⟩ := intsSlice hu
  have hz : Ent.lastOf p.l (zeros ((p.c.shards.length : Nat) : Int)) = p.last p.z := rfl
  rw [hz] at hu
  have HU := Lib.hid hu
  have HE2 := Lib.hid (HD.out.trans hE2)
  have k1 : w2.cell? ⟨q1, 0, none⟩ = some (.slice va vn vc) := cell_of_heap (heap_ext HV.out.1 (HD.out.trans hE2)) 0
  clear hu hE2 hz c0 c1 c3
  go_wp2_with fail
  refine (covers_any _ _ ns (p.last p.z) w2 (HV.out.2.below HE2.out) HU.out).mono ?_
  rintro e w3 ⟨rfl, rfl⟩
  obtain ⟨b, hb⟩ : ∃ b, Vec.covers ns (p.last p.z) = b := ⟨_, rfl⟩
  have hmay : p.mayCut p.z ns = (b && !Vec.same ns (p.last p.z)) := by unfold Quo.Pr.mayCut; rw [hb]
  have HM := Lib.hid hmay
  rw [hb]
  clear hmay hb
  cases b with
  | false =>
    go_wp2_with fail
    go_ret
    exact ⟨by rw [HM.out]; rfl, HE2.out⟩
  | true =>
    go_wp2_with fail
    refine (same_any _ _ ns (p.last p.z) w2 (HV.out.2.below HE2.out) HU.out).mono ?_
    rintro e w4 ⟨rfl, hE4⟩
    obtain ⟨b2, hb2⟩ : ∃ b, Vec.same ns (p.last p.z) = b := ⟨_, rfl⟩
    rw [hb2] at HM ⊢
    have HE4 := Lib.hid (HE2.out.trans hE4)
    clear hE4 hb2 k1
    go_wp2_with fail
    go_ret
    exact ⟨by rw [HM.out]; cases b2 <;> rfl, HE4.out⟩
set_option maxHeartbeats 8000000 in
theorem trimMay12_any {w : World} {B x q0 q1 : Nat} {S K : Nat → Prop} {p : Quo.Pr} (h : IsPr w B S K x p) (t pos : Int) (h0 : w.heap[q0]? = some (.cells #[.int .i64 t, .int .i64 pos] 58 (0, 0))) (h1 : w.heap[q1]? = some (.cells #[.pointer (some ⟨x, 0, none⟩)] 54 (0, 0))) :
    Calls Try.prog 65 #[.pointer (some ⟨q0, 0, none⟩), .pointer (some ⟨q1, 0, none⟩)] w fun e w' => e = .returned (.bool (p.mayTrim t)) ∧ Ext w w' := by
  obtain ⟨kb, ev, es, h⟩ := h
  have hd := Ext.drew w
  have c0 : w.drew.cell? ⟨q1, 0, none⟩ = some (.pointer (some ⟨x, 0, none⟩)) := cell_of_heap (heap_ext h1 hd) 0
  have c1 : w.drew.cell? ⟨x, 0, none⟩ = some (.int .i64 p.c.term) := cell_of_heap (h.at'.ext hd).heap 0
  have c2 : w.drew.cell? ⟨q0, 0, none⟩ = some (.int .i64 t) := cell_of_heap (heap_ext h0 hd) 0
  obtain ⟨tc, htc⟩ : ∃ z, p.c.term = z := ⟨_, rfl⟩
  rw [htc] at c1
  have HT := Lib.hid htc
  clear h h0 h1 htc hd
  go_enter Try.func65, Try.ntmps65
  go_wp2_with fail
  go_region
  go_wp2_with fail
  go_ret
  refine ⟨?_, Ext.drew w⟩
  unfold Quo.Pr.mayTrim
  rw [HT.out]
  rfl
end Go.Proofs.Ytnoeconcpgdjlaa
