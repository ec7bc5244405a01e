/-
  Merged: Layer 12, mathematics: what is known by what was heard, what is committed reckoned number by number; Layer 12, mathematics: the statements' example; Layer 6, mathematics: bytes as configurations, read part by part, each up to some bound: whatever the bounds are (great enough), the same are read; Layer 12, mathematics: sealed replicas that have beginnings of one chain.
-/
import Derived.Test.YtnoeconcpgdjlaaBsMath

set_option linter.unusedSimpArgs false
set_option linter.unusedVariables false

/- Layer 12, mathematics: what is known by what was heard, what is committed reckoned number by number; a sealer. No program. -/
namespace Go.Proofs.Ytnoeconcpgdjlaa.Quo
set_option linter.unusedSimpArgs false
set_option linter.unusedVariables false
open Ent (E)

theorem many_committed {p : Pr} (h : p.Ok) (n : Int) : (Term.majority p.c : Int) ≤ (Vec.many (p.c.seqs.map p.f) n : Int) ↔ n ≤ p.committed := by
  have hq := committed_is h
  constructor
  · intro hm
    rcases Int.lt_or_le p.committed n with hl | hl
    · have := hq.2.2 n hl; omega
    · exact hl
  · intro hl
    have h1 := hq.2.1
    have h2 := Vec.many_mono (p.c.seqs.map p.f) hl
    omega
/-- The greatest of the first k numbers that enough have. -/
def best (p : Pr) : Nat → Int
  | 0 => 0
  | k + 1 => if (Term.majority p.c : Int) ≤ (Vec.many (p.c.seqs.map p.f) ((k : Int) + 1) : Int) then (k : Int) + 1 else best p k
theorem best_min {p : Pr} (h : p.Ok) : ∀ k : Nat, best p k = min (k : Int) p.committed := by
  intro k
  induction k with
  | zero =>
    have := (committed_le h).1
    show (0 : Int) = min ((0 : Nat) : Int) p.committed
    omega
  | succ k ih =>
    unfold best
    have hc := many_committed h ((k : Int) + 1)
    split
    · next hm => have := hc.1 hm; omega
    · next hm =>
      have : ¬ ((k : Int) + 1 ≤ p.committed) := fun e => hm (hc.2 e)
      rw [ih]
      omega
theorem best_all {p : Pr} (h : p.Ok) : best p p.l.length = p.committed := by
  rw [best_min h]
  have := (committed_le h).2
  omega
/-! A sealer. -/
/-- The longest of all, the first of the longest ones. -/
def longest (ps : List (Int × List E)) : List E := ps.foldl (fun o p => if o.length < p.2.length then p.2 else o) []
theorem longest_snoc (ps : List (Int × List E)) (p : Int × List E) : longest (ps ++ [p]) = if (longest ps).length < p.2.length then p.2 else longest ps := by
  unfold longest
  rw [List.foldl_append]
  rfl
instance : DecidableEq E := fun a b => decidable_of_iff _ (Ent.alike_iff a b)
/-- Two rows are the same as far as both go. -/
def agrees (a b : List E) : Bool := decide (a.take (min a.length b.length) = b.take (min a.length b.length))
theorem agrees_iff (a b : List E) : agrees a b = true ↔ a <+: b ∨ b <+: a := by
  unfold agrees
  rw [decide_eq_true_eq]
  constructor
  · intro h
    rcases Nat.le_total a.length b.length with hl | hl
    · rw [Nat.min_eq_left hl, List.take_length] at h
      exact .inl (h ▸ List.take_prefix _ _)
    · rw [Nat.min_eq_right hl, List.take_length] at h
      exact .inr (h ▸ List.take_prefix _ _)
  · rintro (h | h)
    · have hl := h.length_le
      rw [Nat.min_eq_left hl, List.take_length]
      exact List.prefix_iff_eq_take.1 h
    · have hl := h.length_le
      rw [Nat.min_eq_right hl, List.take_length]
      exact (List.prefix_iff_eq_take.1 h).symm
structure Se where
  c : Term.C
  ps : List (Int × List E)
def Se.long (s : Se) : List E := longest s.ps
def Se.hears (s : Se) (n : Int) (x : List E) : Bool := decide (n ∈ s.c.seqs ∧ Ent.chain x = x.length ∧ n ∉ s.ps.map (·.1)) && agrees x s.long
def Se.hear (s : Se) (n : Int) (x : List E) : Se := if s.hears n x = true then ⟨s.c, s.ps ++ [(n, x)]⟩ else s
def Se.done (s : Se) : Bool := decide (Term.majority s.c ≤ s.ps.length)
structure Se.Ok (s : Se) : Prop where
  right : Term.right s.c = true
  pre : ∀ p ∈ s.ps, p.2 <+: s.long
  chain : Ent.isChain s.long
  once : (s.ps.map (·.1)).Nodup
  isOne : s.ps ≠ [] → ∃ p ∈ s.ps, p.2 = s.long
theorem Se.new_ok {c : Term.C} (h : Term.right c = true) : (Se.mk c []).Ok := ⟨h, (fun p hp => absurd hp (by simp)), rfl, List.nodup_nil, (fun h => absurd rfl h)⟩
theorem Se.Ok.hear {s : Se} (h : s.Ok) (n : Int) (x : List E) : (s.hear n x).Ok := by
  unfold Se.hear
  split
  · next hh =>
    unfold Se.hears at hh
    simp only [Bool.and_eq_true, decide_eq_true_eq] at hh
    obtain ⟨⟨h1, h2, h3⟩, h4⟩ := hh
    have ha := (agrees_iff _ _).1 h4
    have hl : (Se.mk s.c (s.ps ++ [(n, x)])).long = if s.long.length < x.length then x else s.long := longest_snoc _ _
    by_cases hlt : s.long.length < x.length
    · rw [if_pos hlt] at hl
      have hp : s.long <+: x := by
        rcases ha with ha | ha
        · have := ha.length_le; omega
        · exact ha
      refine ⟨h.right, fun p hp' => ?_, ?_, ?_, fun _ => ?_⟩
      · rw [hl]
        rcases List.mem_append.1 hp' with hp' | hp'
        · exact (h.pre p hp').trans hp
        · rw [List.mem_singleton.1 hp']; exact List.prefix_rfl
      · rw [hl]; exact h2
      · show ((s.ps ++ [(n, x)]).map (·.1)).Nodup
        rw [List.map_append]
        exact List.nodup_append.2 ⟨h.once, by simp, fun a ha b hb e => h3 (by simp at hb; subst hb; subst e; exact ha)⟩
      · exact ⟨(n, x), List.mem_append_right _ (List.mem_singleton.2 rfl), hl.symm⟩
    · rw [if_neg hlt] at hl
      have hp : x <+: s.long := by
        rcases ha with ha | ha
        · exact ha
        · have := List.IsPrefix.eq_of_length ha (by have := ha.length_le; omega)
          rw [this]; exact List.prefix_rfl
      refine ⟨h.right, fun p hp' => ?_, ?_, ?_, fun _ => ?_⟩
      · rw [hl]
        rcases List.mem_append.1 hp' with hp' | hp'
        · exact h.pre p hp'
        · rw [List.mem_singleton.1 hp']; exact hp
      · rw [hl]; exact h.chain
      · show ((s.ps ++ [(n, x)]).map (·.1)).Nodup
        rw [List.map_append]
        exact List.nodup_append.2 ⟨h.once, by simp, fun a ha b hb e => h3 (by simp at hb; subst hb; subst e; exact ha)⟩
      · by_cases hn : s.ps = []
        · refine ⟨(n, x), List.mem_append_right _ (List.mem_singleton.2 rfl), ?_⟩
          rw [hl]
          have h0 : s.long = [] := by unfold Se.long; rw [hn]; rfl
          rw [h0] at hlt ⊢
          show x = []
          simpa using hlt
        · obtain ⟨p, hp1, hp2⟩ := h.isOne hn
          exact ⟨p, List.mem_append_left _ hp1, by rw [hl]; exact hp2⟩
  · exact h
/-- Agreeing with all that was heard is agreeing with the longest. -/
theorem agrees_all {s : Se} (h : s.Ok) (x : List E) : (∀ p ∈ s.ps, agrees p.2 x = true) ↔ agrees x s.long = true := by
  constructor
  · intro ha
    by_cases hn : s.ps = []
    · have h0 : s.long = [] := by unfold Se.long; rw [hn]; rfl
      rw [h0]
      exact (agrees_iff _ _).2 (.inr List.nil_prefix)
    · obtain ⟨p, hp1, hp2⟩ := h.isOne hn
      have := (agrees_iff _ _).1 (ha p hp1)
      rw [hp2] at this
      exact (agrees_iff _ _).2 this.symm
  · intro ha p hp
    have h1 := h.pre p hp
    refine (agrees_iff _ _).2 ?_
    rcases (agrees_iff _ _).1 ha with h2 | h2
    · rcases Nat.le_total p.2.length x.length with hl | hl
      · exact .inl (List.prefix_of_prefix_length_le h1 h2 hl)
      · exact .inr (List.prefix_of_prefix_length_le h2 h1 hl)
    · exact .inl (h1.trans h2)
end Go.Proofs.Ytnoeconcpgdjlaa.Quo

/- Layer 12, mathematics: the statements' example. No program. -/
namespace Go.Proofs.Ytnoeconcpgdjlaa.Quo
set_option linter.unusedSimpArgs false
set_option linter.unusedVariables false
open Ent (E)

def exC : Term.C := ⟨1, [0, 1, 2], [[3], [4]]⟩
theorem exC_right : Term.right exC = true := by decide
def exE : E := ⟨1, 1, [1, 0], 0, 0, 0⟩
def exP1 : Pr := ⟨exC, [exE], fun _ => 0, false⟩
def exM0 : Msg.M := ⟨4, 0, 0, 1, 0, 1, false, Msg.rec0, Msg.ent0, 0, 0, Msg.conf0⟩
def exM1 : Msg.M := ⟨6, 1, 0, 1, 0, 1, true, Msg.rec0, Msg.ent0, 0, 0, Msg.conf0⟩
def exP2 : Pr := exP1.hear exM0
def exP3 : Pr := exP2.hear exM1
theorem ex_cut1 : (new exC).next (cutE [1, 0]) ((new exC).mayCut (new exC).z [1, 0]) = exP1 ∧ (new exC).made (cutE [1, 0]) ((new exC).mayCut (new exC).z [1, 0]) = exE ∧ (new exC).err (cutE [1, 0]) ((new exC).mayCut (new exC).z [1, 0]) = 0 := by
  have h : (new exC).err (cutE [1, 0]) ((new exC).mayCut (new exC).z [1, 0]) = 0 := by decide
  refine ⟨?_, ?_, h⟩
  · unfold Pr.next; rw [if_pos h]; rfl
  · unfold Pr.made; rw [if_pos h]; rfl
theorem ex_cut2 : exP1.next (cutE [1, 0]) (exP1.mayCut exP1.z [1, 0]) = exP1 ∧ exP1.made (cutE [1, 0]) (exP1.mayCut exP1.z [1, 0]) = Msg.ent0 ∧ exP1.err (cutE [1, 0]) (exP1.mayCut exP1.z [1, 0]) = 1 := by
  have h : exP1.err (cutE [1, 0]) (exP1.mayCut exP1.z [1, 0]) = 1 := by decide
  refine ⟨next_same (by rw [h]; decide), ?_, h⟩
  unfold Pr.made; rw [if_neg (by rw [h]; decide)]
theorem ex_hear1 : exP1.hears exM0 = true := by decide
theorem ex_p2 : exP2 = ⟨exC, [exE], upd (fun _ => 0) 0 1, false⟩ := by unfold exP2 Pr.hear; rw [if_pos ex_hear1]; rfl
theorem ex_hear2 : exP2.hears exM1 = true := by rw [ex_p2]; decide
theorem ex_p3 : exP3 = ⟨exC, [exE], upd (upd (fun _ => 0) 0 1) 1 1, true⟩ := by unfold exP3 Pr.hear; rw [if_pos ex_hear2, ex_p2]; rfl
theorem ex_cut3 : exP3.next (cutE [2, 0]) (exP3.mayCut exP3.z [2, 0]) = exP3 ∧ exP3.made (cutE [2, 0]) (exP3.mayCut exP3.z [2, 0]) = Msg.ent0 ∧ exP3.err (cutE [2, 0]) (exP3.mayCut exP3.z [2, 0]) = 120 := by
  have h : exP3.err (cutE [2, 0]) (exP3.mayCut exP3.z [2, 0]) = 120 := by
    unfold Pr.err
    rw [if_pos (by rw [ex_p3])]
  refine ⟨next_same (by rw [h]; decide), ?_, h⟩
  unfold Pr.made; rw [if_neg (by rw [h]; decide)]
theorem ex_ok1 : exP1.Ok := by
  have := (new_ok exC_right).next (fits_cut (new_ok exC_right) (new exC).z [1, 0])
  rwa [ex_cut1.1] at this
theorem ex_ok3 : exP3.Ok := (ex_ok1.hear exM0).hear exM1
theorem ex_committed : exP3.committed = 1 := by
  have h := best_all ex_ok3
  rw [← h, ex_p3]
  decide
theorem ex_missing : exP3.missing 2 = [exE] := by rw [ex_p3]; decide
def exS0 : Se := ⟨exC, []⟩
def exS1 : Se := exS0.hear 0 [exE]
def exS2 : Se := exS1.hear 1 []
theorem ex_s1h : exS0.hears 0 [exE] = true := by decide
theorem ex_s1 : exS1 = ⟨exC, [(0, [exE])]⟩ := by unfold exS1 Se.hear; rw [if_pos ex_s1h]; rfl
theorem ex_s2h : exS1.hears 1 [] = true := by rw [ex_s1]; decide
theorem ex_s2 : exS2 = ⟨exC, [(0, [exE]), (1, [])]⟩ := by unfold exS2 Se.hear; rw [if_pos ex_s2h, ex_s1]; rfl
theorem ex_done : exS2.done = true := by rw [ex_s2]; decide
theorem ex_long : exS2.long = [exE] := by rw [ex_s2]; rfl
end Go.Proofs.Ytnoeconcpgdjlaa.Quo

/- Layer 6, mathematics: bytes as configurations, read part by part, each up to some bound: whatever the bounds are (great enough), the same are read. -/
namespace Go.Proofs.Ytnoeconcpgdjlaa.Term

/-! What is read is written as the same bytes. -/
/-- What Decode tells. -/
def noC : C := ⟨0, [], []⟩
def confOf : Option C → C
  | none => noC
  | some c => c
end Go.Proofs.Ytnoeconcpgdjlaa.Term

/- Layer 12, mathematics: sealed replicas that have beginnings of one chain. No program. -/
namespace Go.Proofs.Ytnoeconcpgdjlaa.Quo
set_option linter.unusedSimpArgs false
set_option linter.unusedVariables false
open Ent (E)

/-- The greatest of these. -/
def mx (K : Nat → Nat) (ix : List Nat) : Nat := ix.foldl (fun m i => max m (K i)) 0
theorem mx_snoc (K : Nat → Nat) (ix : List Nat) (i : Nat) : mx K (ix ++ [i]) = max (mx K ix) (K i) := by
  unfold mx
  rw [List.foldl_append]
  rfl
theorem mx_le (K : Nat → Nat) (ix : List Nat) (B : Nat) : mx K ix ≤ B ↔ ∀ i ∈ ix, K i ≤ B := by
  have key : ∀ (l : List Nat) (m : Nat), l.foldl (fun m i => max m (K i)) m ≤ B ↔ m ≤ B ∧ ∀ i ∈ l, K i ≤ B := by
    intro l
    induction l with
    | nil => intro m; simp
    | cons a l ih =>
      intro m
      rw [List.foldl_cons, ih]
      simp only [List.mem_cons, forall_eq_or_imp]
      constructor
      · rintro ⟨h1, h2⟩; exact ⟨by omega, by omega, h2⟩
      · rintro ⟨h1, h2, h3⟩; exact ⟨by omega, h3⟩
  unfold mx
  rw [key]
  exact ⟨fun h => h.2, fun h => ⟨Nat.zero_le _, h⟩⟩
theorem mx_same (K : Nat → Nat) {ix iy : List Nat} (h : ∀ i, i ∈ ix ↔ i ∈ iy) : mx K ix = mx K iy := by
  apply Nat.le_antisymm
  · exact (mx_le K ix _).2 fun i hi => (mx_le K iy _).1 (Nat.le_refl _) i ((h i).1 hi)
  · exact (mx_le K iy _).2 fun i hi => (mx_le K ix _).1 (Nat.le_refl _) i ((h i).2 hi)
/-- A sealer that heard the nodes of these numbers. -/
structure Tl (c : Term.C) (l : List E) (K : Nat → Nat) (ix : List Nat) (s : Se) : Prop where
  cc : s.c = c
  pp : s.ps = ix.map fun i => (c.seqs.getD i 0, l.take (K i))
  ll : ∀ i ∈ ix, i < c.seqs.length
theorem Tl.new (c : Term.C) (l : List E) (K : Nat → Nat) : Tl c l K [] ⟨c, []⟩ := ⟨rfl, rfl, fun i hi => absurd hi (by simp)⟩
theorem Tl.long {c : Term.C} {l : List E} {K : Nat → Nat} {ix : List Nat} {s : Se} (h : Tl c l K ix s) (hK : ∀ i, K i ≤ l.length) : s.long = l.take (mx K ix) := by
  unfold Se.long
  rw [h.pp]
  have key : ∀ (ix : List Nat) (m : Nat), m ≤ l.length → (ix.map fun i => (c.seqs.getD i 0, l.take (K i))).foldl (fun o p => if o.length < p.2.length then p.2 else o) (l.take m) = l.take (ix.foldl (fun m i => max m (K i)) m) := by
    intro ix
    induction ix with
    | nil => intro m _; rfl
    | cons i ix ih =>
      intro m hm
      have h1 := hK i
      rw [List.map_cons, List.foldl_cons, List.foldl_cons, ← ih (max m (K i)) (by omega)]
      congr 1
      simp only [List.length_take]
      split
      · next hl => rw [Nat.max_eq_right (by omega)]
      · next hl => rw [Nat.max_eq_left (by omega)]
  exact key ix 0 (Nat.zero_le _)
theorem getD_inj {l : List Int} (hn : l.Nodup) {i j : Nat} (hi : i < l.length) (hj : j < l.length) (h : l.getD i 0 = l.getD j 0) : i = j := by
  rw [List.getD_eq_getElem?_getD, List.getD_eq_getElem?_getD, List.getElem?_eq_getElem hi, List.getElem?_eq_getElem hj] at h
  simp only [Option.getD_some] at h
  rcases Nat.lt_trichotomy i j with hl | hl | hl
  · exact absurd h (List.pairwise_iff_getElem.1 hn i j hi hj hl)
  · exact hl
  · exact absurd h.symm (List.pairwise_iff_getElem.1 hn j i hj hi hl)
theorem Tl.hears {c : Term.C} {l : List E} {K : Nat → Nat} {ix : List Nat} {s : Se} (h : Tl c l K ix s) (hr : Term.right c = true) (hl : Ent.isChain l) (hK : ∀ i, K i ≤ l.length) {i : Nat} (hi : i < c.seqs.length) (hn : i ∉ ix) :
    s.hears (c.seqs.getD i 0) (l.take (K i)) = true ∧ Tl c l K (ix ++ [i]) (s.hear (c.seqs.getD i 0) (l.take (K i))) := by
  have hnd : c.seqs.Nodup := (Term.unlike_ok (Term.right_ok hr).2.2.2.2).2
  have hh : s.hears (c.seqs.getD i 0) (l.take (K i)) = true := by
    unfold Se.hears
    simp only [Bool.and_eq_true, decide_eq_true_eq]
    refine ⟨⟨?_, ?_, ?_⟩, ?_⟩
    · rw [h.cc, List.getD_eq_getElem?_getD, List.getElem?_eq_getElem hi]
      exact List.getElem_mem hi
    · have h1 : Ent.isChain l := hl
      unfold Ent.isChain at h1
      rw [Ent.chain_take, h1, List.length_take]
    · rw [h.pp, List.map_map]
      intro hm
      obtain ⟨j, hj, he⟩ := List.mem_map.1 hm
      exact hn (getD_inj hnd (h.ll j hj) hi he ▸ hj)
    · rw [h.long hK]
      refine (agrees_iff _ _).2 ?_
      rcases Nat.le_total (K i) (mx K ix) with hle | hle
      · exact .inl (List.take_prefix_take_left hle)
      · exact .inr (List.take_prefix_take_left hle)
  refine ⟨hh, ?_⟩
  unfold Se.hear
  rw [if_pos hh]
  refine ⟨h.cc, ?_, fun j hj => ?_⟩
  · show s.ps ++ _ = _
    rw [h.pp, List.map_append]
    rfl
  · rcases List.mem_append.1 hj with hj | hj
    · exact h.ll j hj
    · rw [List.mem_singleton.1 hj]; exact hi
theorem Tl.done {c : Term.C} {l : List E} {K : Nat → Nat} {ix : List Nat} {s : Se} (h : Tl c l K ix s) (hr : Term.right c = true) (hx : ix.length = c.seqs.length) : s.done = true := by
  unfold Se.done
  rw [h.cc, h.pp, List.length_map, hx]
  exact decide_eq_true (maj_in hr).2
/-- The numbers below n, backwards. -/
def back (n j : Nat) : List Nat := (List.range j).map fun i => n - 1 - i
theorem back_succ (n j : Nat) : back n (j + 1) = back n j ++ [n - 1 - j] := by unfold back; rw [List.range_succ, List.map_append]; rfl
theorem back_not {n j : Nat} (h : j < n) : n - 1 - j ∉ back n j := by
  unfold back
  intro hm
  obtain ⟨i, hi, he⟩ := List.mem_map.1 hm
  have := List.mem_range.1 hi
  omega
theorem back_all (K : Nat → Nat) (n : Nat) : mx K (back n n) = mx K (List.range n) := mx_same K fun i => by
  unfold back
  rw [List.mem_map, List.mem_range]
  constructor
  · rintro ⟨j, hj, rfl⟩
    have := List.mem_range.1 hj
    omega
  · intro hi
    exact ⟨n - 1 - i, List.mem_range.2 (by omega), by omega⟩
end Go.Proofs.Ytnoeconcpgdjlaa.Quo
