/-
  Merged: Layer 12: Missing.
-/
import Derived.Test.YtnoeconcpgdjlaaBsQuC

namespace Go.Proofs.Ytnoeconcpgdjlaa
set_option linter.unusedSimpArgs false
set_option linter.unusedVariables false
set_option maxRecDepth 100000
open Go.RowKit Go.ChangeMaps
/- Layer 12: Missing. -/
theorem zero12 (w : World) : (zeroValue 3).run Try.prog w = .ok (.int .i64 0) w := by kernel_rfl
section
variable {w : World} {B x kb : Nat} {ev : Value} {es : List (Value × Ent.E)} {p : Quo.Pr}
/-- What is known of a node. -/
theorem PrAt.look (h : PrAt w B x kb ev es p) {n : Int} (hn : Wf64 n) : ∃ (k : Int) (b : Bool), (Instr.lookup 98 (.map (some kb)) (.int .i64 n) true).run Try.prog w = .ok (.tuple #[.int .i64 k, .bool b]) w ∧ ((n ∈ p.c.seqs ∧ b = true ∧ k = p.f n) ∨ (n ∉ p.c.seqs ∧ b = false ∧ k = 0)) := by
  by_cases hm : n ∈ p.c.seqs
  · exact ⟨_, true, h.map.found int12_keyed Try.underlying98 (known12_mem hm), .inl ⟨hm, rfl, rfl⟩⟩
  · exact ⟨_, false, h.map.lost int12_keyed Try.underlying98 (int12_key hn) (known12_not hm) (zero12 w), .inr ⟨hm, rfl, rfl⟩⟩
theorem IsPrS.bounds {S K : Nat → Prop} (h : IsPrS w B S K x kb ev es p) : es.length ≤ 512 ∧ ∀ q ∈ es, q.2.cut.length ≤ 8 := by
  refine ⟨by rw [h.lenR]; exact h.ok.max, fun q hq => ?_⟩
  have hm : q.2 ∈ p.l := by rw [← h.at'.ents]; exact List.mem_map.2 ⟨q, hq, rfl⟩
  have hr := (Ent.right_ok (Ent.isChain_right _ _ rfl h.ok.chain _ hm)).2
  rcases hr with ⟨_, hv, _⟩ | ⟨_, hv, _⟩
  · exact (Vec.right_ok hv).2.2
  · rw [hv]; simp
theorem entFlat_drop : ∀ (ps : List (Value × Ent.E)) (n : Nat), (entFlat ps).drop (n * 6) = entFlat (ps.drop n) := by
  intro ps
  induction ps with
  | nil => intro n; simp [entFlat]
  | cons q ps ih =>
    intro n
    cases n with
    | zero => simp
    | succ n =>
      rw [List.drop_succ_cons, ← ih n]
      have e1 : (n + 1) * 6 = n * 6 + 1 + 1 + 1 + 1 + 1 + 1 := by omega
      rw [e1]
      rfl
end
/-- Entries that are told, in rows of their own. -/
def Told12 (w : World) (l : List Ent.E) (e : Ending) (w' : World) : Prop := ∃ u qs, e = .returned u ∧ Ext w w' ∧ w'.ownsRow w.heap.size 74 6 u qs.length (entFlat qs) ∧ qs.map (·.2) = l ∧ ∀ q ∈ qs, RowN w.heap.size w' q.1 q.2.cut
set_option maxHeartbeats 8000000 in
theorem missing12_any {w : World} {B x : Nat} {S K : Nat → Prop} {p : Quo.Pr} (h : IsPr w B S K x p) (n : Int) (hn : Wf64 n) :
    Calls Try.prog 25 #[.pointer (some ⟨x, 0, none⟩), .int .i64 n] w (Told12 w (p.missing n)) := by
  obtain ⟨kb, ev, es, h⟩ := h
  obtain ⟨k, b, hlk, hcase⟩ := h.at'.look hn
  have H := Lib.hid h
  have hlen := h.lenR
  obtain ⟨a, c, rfl, hnc, hcm, _⟩ := h.at'.open
  unfold maxLen at hcm
  have c3 : w.cell? ⟨x, 3, none⟩ = some (.slice a es.length c) := cell_of_heap h.at'.heap 3
  have c4 : w.cell? ⟨x, 4, none⟩ = some (.map (some kb)) := cell_of_heap h.at'.heap 4
  rcases hcase with ⟨hm, rfl, rfl⟩ | ⟨hm, rfl, rfl⟩
  case inr =>
    have HM := Lib.hid hm
    clear h hlen hnc hcm hm
    go_enter Try.func25, Try.ntmps25
    go_wp2
    go_ret
    refine ⟨_, [], rfl, Ext.refl _, World.ownsRow_nil _ _ _ _, ?_, fun q hq => (by cases hq)⟩
    unfold Quo.Pr.missing
    rw [if_neg HM.out]
    rfl
  case inl =>
    obtain ⟨f, hf⟩ : ∃ f : Nat, p.f n = f := ⟨(p.f n).toNat, by have := h.ok.f0 n; omega⟩
    have hfl : f ≤ es.length := by rw [hlen]; have := h.ok.fle n; omega
    have HM := Lib.hid (show p.missing n = p.l.drop f by unfold Quo.Pr.missing; rw [if_pos hm, hf]; rfl)
    rw [hf] at hlk
    have hsl := run_sl_fromN (P := Try.prog) (w := w) Try.underlying43 (by kernel_rfl : (Try.prog.info? 74).map (·.size) = some 6) (a := a) (n := es.length) (cap := c) f hfl .i64
    obtain ⟨v, hv⟩ : ∃ v : Value, .slice (if c = f then a else a.map (·.add (f * 6))) (es.length - f) (c - f) = v := ⟨_, rfl⟩
    have hsn := SlN.from (SlN.ofOwn h.at'.row) f hfl (by omega)
    rw [hv] at hsl hsn
    rw [entFlat_drop] at hsn
    have hb := h.bounds
    have hdl : (es.drop f).length = es.length - f := List.length_drop
    have HOW := Lib.hid (own12_any v (es.drop f) w (by rw [hdl]; exact hsn) (fun q hq => h.at'.ints q (List.mem_of_mem_drop hq)) (by omega) (fun q hq => by have := hb.2 q (List.mem_of_mem_drop hq); omega))
    have HE := Lib.hid (show (es.drop f).map (·.2) = p.l.drop f by rw [List.map_drop, h.at'.ents])
    clear h hlen hm hf hfl hv hsn hb hdl
    go_enter Try.func25, Try.ntmps25
    go_wp2_with fail
    refine HOW.out.mono ?_
    rintro e w1 ⟨u, qs, rfl, hE, hrow, hqs, hq⟩
    have HR := Lib.hid (show Told12 w (p.missing n) (.returned u) w1 from ⟨u, qs, rfl, hE, hrow, by rw [hqs, HE.out, HM.out], hq⟩)
    clear hE hrow hqs hq
    go_wp2_with fail
    go_ret
    exact HR.out
end Go.Proofs.Ytnoeconcpgdjlaa
