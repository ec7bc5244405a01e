/-
  Merged: A region that draws its order: facts, one operation that turns them, floaters beside it, then last ones that wait for all.
-/
import Derived.Test.YtkpcmedmiiohnaaBsLib

namespace Go.Proofs.Ytkpcmedmiiohnaa
set_option linter.unusedSimpArgs false
set_option linter.unusedVariables false
open Go.RowKit
/- A region that draws its order: facts, one operation that turns them, floaters beside it, then last ones that wait for all. No program. -/
theorem atLeast : ∀ (l : List Bool) (k : Nat), (∀ i (h1 : k ≤ i) (h2 : i < l.length), l[i] = false) → l.length ≤ k + (l.filter (· == false)).length := by
  intro l
  induction l with
  | nil => intro k _; simp
  | cons x l ih =>
    intro k h
    cases k with
    | zero =>
      have hx : x = false := h 0 (Nat.le_refl _) (by simp)
      subst hx
      have := ih 0 (fun i _ h2 => h (i + 1) (Nat.zero_le _) (by simpa using h2))
      simp only [List.filter_cons, beq_self_eq_true, if_true, List.length_cons]
      omega
    | succ k =>
      have := ih k (fun i h1 h2 => h (i + 1) (by omega) (by simpa using h2))
      have h3 : (l.filter (· == false)).length ≤ ((x :: l).filter (· == false)).length := by
        rw [List.filter_cons]
        split
        · simp
        · exact Nat.le_refl _
      simp only [List.length_cons]
      omega
section
variable {P : Program} {ops : List Oper} {a0 : Act} {w0 : World} {L : World → World → Prop} {F : Nat → Value → World → Prop} {Q : Exit → Act → World → Prop}
theorem facts_rest_to (k : Nat) (ht : tailOk ops k = true) (hkl : k ≤ ops.length) (rest : List Nat) (hok : factsOk ops a0.tmps.size = true) (htr : ∀ a b c, L a b → L b c → L a c) (hrf : ∀ a, L a a) (hst : ∀ i v w w', F i v w → L w w' → F i v w') (hob : ∀ i o, ops[i]? = some o → i ∈ rest → Obl P ops a0 w0 L F i o)
    (hend : ∀ (fuel : Nat) listed a w, ops.length ≤ k + fuel → Good ops a0 w0 L F listed a w → (∀ i, i < ops.length → (listed.getD i false = true ↔ i < k)) → wpAny P .any ops.toArray Q fuel listed a w) :
    ∀ (fuel : Nat) (listed : Array Bool) (a : Act) (w : World), (listed.toList.filter (· == false)).length ≤ fuel → Good ops a0 w0 L F listed a w → (∀ i, i < k → i ∉ rest → listed.getD i false = true) → (∀ i, k ≤ i → listed.getD i false = false) → wpAny P .any ops.toArray Q fuel listed a w := by
  intro fuel
  have step : ∀ (listed : Array Bool) (a : Act) (w : World) (i : Nat) (K : Act → World → Prop), Good ops a0 w0 L F listed a w → i ∈ Region.ready .any ops.toArray listed → i ∈ rest →
      (∀ a' w', Good ops a0 w0 L F (listed.setIfInBounds i true) a' w' → K a' w') → wpOp P ops.toArray Q i K a w := by
    intro listed a w i K hg hm hin hK
    obtain ⟨o, hi, hnot, hready⟩ := ready_mem hm hg.lsize
    have hob1 := hob i o hi hin
    have hf := factsOk_at hok hi
    have hpl : Plain a.eval := ⟨fun _ => rfl, fun _ => rfl, fun _ => rfl⟩
    have hdep : ∀ j, waitsFor o j = true → ∃ v, F j v w := by
      intro j hj
      have hlj := hready j hj
      have hjl : j < ops.length := by
        rcases Nat.lt_or_ge j ops.length with h | h
        · exact h
        · simp [Array.getD, hg.lsize, Nat.not_lt.2 h] at hlj
      have := hg.left j ops[j] (by simp [hjl]) hlj
      unfold Left at this
      cases hd : ops[j].dst with
      | none => rw [hd] at this; exact this
      | some t => rw [hd] at this; exact ⟨_, this⟩
    have hob2 := hob1 a.eval w hpl hg.later (hg.known hok hi hnot hready) hdep
    have yields : Yield P o a.eval w (fun v w' => L w w' ∧ F i v w') → o.wp P a w K Q := fun hy =>
      hy.wp fun v w' hh => hK _ _ (hg.put hok htr hst hi hready hh.1 hh.2)
    have skips : F i undef w → K (a.put o.dst undef) w := fun hu => hK _ _ (hg.put hok htr hst hi hready (hrf _) hu)
    unfold wpOp
    rw [show ops.toArray[i]? = some o from by simpa using hi]
    simp only []
    cases hgd : o.guard with
    | none =>
      rw [hgd] at hob2
      have : Region.wanted o (yielded ops.toArray a.tmps) = true := by simp [Region.wanted, hgd]
      rw [if_pos this]
      exact .inl (yields hob2)
    | some gw =>
      obtain ⟨g, want⟩ := gw
      rw [hgd] at hob2
      simp only [factsOkAt, hgd, Bool.and_eq_true] at hf
      have hwg := hf.2.1
      have hlg := hready g hwg
      have hgl : g < ops.length := by
        rcases Nat.lt_or_ge g ops.length with h | h
        · exact h
        · simp [Array.getD, hg.lsize, Nat.not_lt.2 h] at hlg
      have hog : ops[g]? = some ops[g] := by simp [hgl]
      have hds := hf.2.2
      rw [hog] at hds
      simp only [] at hds
      obtain ⟨t, ht⟩ := Option.isSome_iff_exists.1 hds
      have hleft := hg.left g ops[g] hog hlg
      unfold Left at hleft
      rw [ht] at hleft
      simp only [] at hleft
      have hy : yielded ops.toArray a.tmps g = match a.tmps.getD t undef with | .bool b => some b | _ => none := by
        unfold yielded
        have : ((ops.toArray[g]?).bind (·.dst)) = some t := by simp [hgl, ht]
        rw [this]
        simp only [Option.bind_some, Array.getD_eq_getD_getElem?]
        cases hx : a.tmps[t]? with
        | none => rfl
        | some x => cases x <;> rfl
      have hw : Region.wanted o (yielded ops.toArray a.tmps) = (yielded ops.toArray a.tmps g == some want) := by simp [Region.wanted, hgd]
      rw [hw, hy]
      by_cases hx : a.tmps.getD t undef = .bool want
      · rw [hx]
        simp only [beq_self_eq_true, if_true]
        exact .inl (yields (hob2.1 _ hleft hx))
      · have hne : ((match a.tmps.getD t undef with | .bool b => some b | _ => none) == some want) = false := by
          generalize a.tmps.getD t undef = x at hx
          cases x <;> try rfl
          rename_i b
          have hb : b ≠ want := fun e => hx (by rw [e])
          simpa using hb
        rw [hne]
        simp only [Bool.false_eq_true, if_false]
        exact skips (hob2.2 _ hleft hx)
  have cnt : ∀ (listed : Array Bool) (a : Act) (w : World), Good ops a0 w0 L F listed a w → (∀ i, k ≤ i → listed.getD i false = false) → ops.length ≤ k + (listed.toList.filter (· == false)).length := by
    intro listed a w hg hge
    have := atLeast listed.toList k (fun i h1 h2 => by
      have h3 := hge i h1
      have : i < listed.size := by simpa using h2
      simpa [Array.getD, this] using h3)
    rw [Array.length_toList, hg.lsize] at this
    exact this
  have both : ∀ (listed : Array Bool), (∀ i, k ≤ i → listed.getD i false = false) → (∀ i, i < k → listed.getD i false = true) → ∀ i, i < ops.length → (listed.getD i false = true ↔ i < k) := by
    intro listed hge hall i _
    rcases Nat.lt_or_ge i k with h | h
    · exact ⟨fun _ => h, fun _ => hall i h⟩
    · rw [hge i h]
      exact ⟨fun e => (by cases e), fun e => (by omega)⟩
  induction fuel with
  | zero =>
    intro listed a w hn hg hno hge
    have hc := cnt listed a w hg hge
    refine hend 0 listed a w (by omega) hg (both listed hge fun i hi => ?_)
    have h0 : listed.toList.filter (· == false) = [] := List.eq_nil_of_length_eq_zero (by omega)
    rw [List.filter_eq_nil_iff] at h0
    have hil : i < listed.size := by rw [hg.lsize]; omega
    have := h0 listed[i] (by simp)
    simpa [Array.getD, hil] using this
  | succ fuel ih =>
    intro listed a w hn hg hno hge
    by_cases hall : ∀ i, i < k → listed.getD i false = true
    · have hc := cnt listed a w hg hge
      exact hend (fuel + 1) listed a w (by omega) hg (both listed hge hall)
    · have hex : ∃ j, j < k ∧ listed.getD j false = false := Classical.byContradiction fun h => hall fun i hi => by
        cases hx : listed.getD i false with
        | true => rfl
        | false => exact absurd ⟨i, hi, hx⟩ h
      obtain ⟨j0, hj0, hjn⟩ := hex
      refine ⟨fun hr => ?_, fun i hm => ?_⟩
      · have := ready_nil hok hr hg.lsize j0 (by omega)
        rw [hjn] at this
        cases this
      · obtain ⟨o, hi, hnot, hready⟩ := ready_mem hm hg.lsize
        have hlt := (List.getElem?_eq_some_iff.1 hi).1
        have hik : i < k := by
          rcases Nat.lt_or_ge i k with h | h
          · exact h
          · have := reach_listed hg.closed _ i j0 o hi hready (tailOk_at ht hlt h (by omega))
            rw [hjn] at this
            cases this
        have hin : i ∈ rest := Classical.byContradiction fun h => by
          rw [hno i hik h] at hnot
          cases hnot
        refine step listed a w i _ hg hm hin fun a' w' hg' => ih _ _ _ ?_ hg' (fun j hj hr => by
          rw [getD_set _ _ _ (by rw [hg.lsize]; exact hlt)]
          split
          · rfl
          · exact hno j hj hr) (fun j hj => by
          rw [getD_set _ _ _ (by rw [hg.lsize]; exact hlt), if_neg (by omega)]
          exact hge j hj)
        have hil : i < listed.toList.length := by rw [Array.length_toList, hg.lsize]; exact hlt
        have hb : listed.toList[i] = false := by
          have : i < listed.size := by simpa using hil
          simpa [Array.getD, this] using hnot
        rw [Array.toList_setIfInBounds]
        have key : ∀ (l : List Bool) (i : Nat) (h : i < l.length), l[i] = false → ((l.set i true).filter (· == false)).length + 1 = (l.filter (· == false)).length := by
          intro l
          induction l with
          | nil => intro i h; simp at h
          | cons x l ihl =>
            intro i h hx
            cases i with
            | zero => simp at hx; subst hx; simp
            | succ i =>
              have := ihl i (by simpa using h) (by simpa using hx)
              cases x <;> simp only [List.set_cons_succ, List.filter_cons, beq_self_eq_true, if_true, List.length_cons] <;> first | omega | (simp; simpa using this)
        have := key _ i hil hb
        omega

end
section
variable {P : Program} {ops : List Oper} {a0 : Act} {w0 : World} {L M : World → World → Prop} {F F2 : Nat → Value → World → Prop} {marks : List Nat} {S : Nat → World → Prop} {R : World → Prop} {Q : Exit → Act → World → Prop}
/-- THE LAW. -/
theorem wp_region_then_tail {id : Nat} (hm : P.follows .mixedOrders = true) (m : Nat) (fl : List Nat) (L M : World → World → Prop) (F F2 : Nat → Value → World → Prop) (marks : List Nat) (S : Nat → World → Prop) (R : World → Prop) (hok : factsOk ops a0.tmps.size = true)
    (hneed : ((List.range m).all fun j => fl.contains j || reach ops ops.length m j) = true) (ht : tailOk ops (m + 1) = true) (hfl : ∀ i, i ∈ fl → i < m) (hml : m < ops.length)
    (htr : ∀ a b c, M a b → M b c → M a c) (hrf : ∀ a, L a a) (hLM : ∀ a b, L a b → M a b) (hSL : ∀ k a b, L a b → S k a → S k b) (hdr : L w0 w0.drew) (h0 : S 0 w0) (hst : ∀ i v w w', F i v w → M w w' → F i v w') (hob : Obls2 P ops a0 w0 L M F marks S 0 (ops.take m))
    (hmarks : ∀ i, i ∈ marks → i < m ∧ i ∉ fl)
    (hturn : match ops[m]? with | some o => o.guard = none ∧ ∀ (ev : Operand → Value) (vals : Nat → Value) (w : World), Plain ev → M w0 w → S marks.length w → (∀ i, i < m → i ∉ fl → F i (vals i) w) → (∀ i p t, ops[i]? = some p → i < m → i ∉ fl → p.dst = some t → ev (.tmp t) = vals i) → (∀ t, t ∈ opTmps o → Known ops a0 F o t (ev (.tmp t)) w) → Yield P o ev w (fun v w' => F2 m v w' ∧ R w' ∧ (∀ i, i < m → i ∉ fl → F2 i (vals i) w') ∧ ∀ i, i ∈ fl → ∀ u, F i u w → F2 i u w') | none => True)
    (hob2 : ∀ w1, R w1 → RestObl P ops a0 w1 F2 fl)
    (hend : ∀ (vals : Nat → Value) w, R w → (∀ i, i < m + 1 → F2 i (vals i) w) → wpList P ops.toArray Q (ops.drop (m + 1)) (putAll vals 0 (ops.take (m + 1)) a0) w) : (Code.region id ops.toArray true).wp P Q a0 w0 := by
  refine wp_region_any hm ?_
  have hneed' : ∀ j, j < m → j ∉ fl → reach ops ops.length m j = true := fun j hj hf => by
    rw [List.all_eq_true] at hneed
    have := hneed j (List.mem_range.2 hj)
    simp only [Bool.or_eq_true, List.contains_iff_mem] at this
    exact this.resolve_left hf
  have last : ∀ (w1 : World), R w1 → ∀ listed a w, Good ops a0 w1 (fun a b => a = b) F2 listed a w → (∀ i, i < ops.length → (listed.getD i false = true ↔ i < m + 1)) → wpList P ops.toArray Q (ops.drop (m + 1)) a w := by
    intro w1 hR listed a w hg hall
    have hw : w1 = w := hg.later
    subst hw
    have hval : ∃ vals : Nat → Value, ∀ i o, (ops.take (m + 1))[i]? = some o → F2 i (vals i) w1 ∧ (∀ t, o.dst = some t → vals i = a.tmps.getD t undef) := by
      have : ∀ i, ∃ v, ∀ o, (ops.take (m + 1))[i]? = some o → F2 i v w1 ∧ (∀ t, o.dst = some t → v = a.tmps.getD t undef) := by
        intro i
        cases hi : (ops.take (m + 1))[i]? with
        | none => exact ⟨undef, fun o h => by simp at h⟩
        | some o =>
          have hil := (List.getElem?_eq_some_iff.1 hi).1
          rw [List.length_take] at hil
          have hio : ops[i]? = some o := by rw [List.getElem?_take] at hi; split at hi <;> simp_all
          have hl := hg.left i o hio ((hall i (by omega)).2 (by omega))
          unfold Left at hl
          cases hd : o.dst with
          | none => rw [hd] at hl; obtain ⟨v, hv⟩ := hl; exact ⟨v, fun p hp => by cases hp; exact ⟨hv, fun t h => by rw [hd] at h; cases h⟩⟩
          | some t => rw [hd] at hl; exact ⟨_, fun p hp => by cases hp; exact ⟨hl, fun t' h => by rw [hd] at h; cases h; rfl⟩⟩
      exact ⟨fun i => (this i).choose, fun i => (this i).choose_spec⟩
    obtain ⟨vals, hv⟩ := hval
    have e : a = putAll vals 0 (ops.take (m + 1)) a0 := by
      have h1 : a.tmps = (putAll vals 0 (ops.take (m + 1)) a0).tmps := by
        apply Array.ext_getElem?
        intro t
        have hsz : a.tmps.size = (putAll vals 0 (ops.take (m + 1)) a0).tmps.size := by rw [putAll_size, hg.size]
        have hgd : a.tmps.getD t undef = (putAll vals 0 (ops.take (m + 1)) a0).tmps.getD t undef := by
          rcases putAll_getD vals t (ops.take (m + 1)) 0 a0 (fun o ho d hd => by
            obtain ⟨i, hi⟩ := List.getElem?_of_mem (List.mem_of_mem_take ho)
            have hf := factsOk_at hok hi
            simp only [factsOkAt, hd, Bool.and_eq_true, decide_eq_true_eq] at hf
            exact hf.1.1.1.2.2) with ⟨h1, h2⟩ | ⟨i, o, h1, h2, h3⟩
          · rw [h1]
            refine hg.old t fun j p hj hlj => h2 j p ?_
            have hjl := (List.getElem?_eq_some_iff.1 hj).1
            have hjm := (hall j hjl).1 hlj
            rw [List.getElem?_take, if_pos hjm]; exact hj
          · rw [h3, Nat.zero_add]; exact ((hv i o h1).2 t h2).symm
        by_cases ht : t < a.tmps.size
        · have ht' : t < (putAll vals 0 (ops.take (m + 1)) a0).tmps.size := hsz ▸ ht
          rw [Array.getElem?_eq_getElem ht, Array.getElem?_eq_getElem ht']
          simpa [Array.getD, ht, ht'] using hgd
        · rw [Array.getElem?_eq_none (by omega), Array.getElem?_eq_none (by omega)]
      have h2 : a.defers = (putAll vals 0 (ops.take (m + 1)) a0).defers := by rw [putAll_defers, hg.defers]
      cases a
      generalize putAll vals 0 (ops.take (m + 1)) a0 = b at *
      cases b
      simp only at h1 h2
      rw [h1, h2]
    rw [e]
    exact hend vals w1 hR fun i hi => (hv i ops[i] (by rw [List.getElem?_take, if_pos hi]; simp)).1
  have step : ∀ (listed : Array Bool) (a : Act) (w : World) (i : Nat) (K : Act → World → Prop), Good ops a0 w0 M F listed a w → S (stage marks (fun j => listed.getD j false)) w → i ∈ Region.ready .any ops.toArray listed → i < m →
      (∀ a' w', Good ops a0 w0 M F (listed.setIfInBounds i true) a' w' → S (stage marks (fun j => (listed.setIfInBounds i true).getD j false)) w' → K a' w') → wpOp P ops.toArray Q i K a w := by
    intro listed a w i K hg hS hm him hK
    obtain ⟨o, hi, hnot, hready⟩ := ready_mem hm hg.lsize
    have hob1 := Obls2.at (ops.take m) 0 hob i o (by rw [List.getElem?_take, if_pos him]; exact hi)
    rw [Nat.zero_add] at hob1
    have hf := factsOk_at hok hi
    have hpl : Plain a.eval := ⟨fun _ => rfl, fun _ => rfl, fun _ => rfl⟩
    have hdep : ∀ j, waitsFor o j = true → ∃ v, F j v w := by
      intro j hj
      have hlj := hready j hj
      have hjl : j < ops.length := by
        rcases Nat.lt_or_ge j ops.length with h | h
        · exact h
        · simp [Array.getD, hg.lsize, Nat.not_lt.2 h] at hlj
      have := hg.left j ops[j] (by simp [hjl]) hlj
      unfold Left at this
      cases hd : ops[j].dst with
      | none => rw [hd] at this; exact this
      | some t => rw [hd] at this; exact ⟨_, this⟩
    have hlt : i < listed.size := by rw [hg.lsize]; exact (List.getElem?_eq_some_iff.1 hi).1
    have hupd : (fun j => (listed.setIfInBounds i true).getD j false) = upd (fun j => listed.getD j false) i := by
      funext j
      unfold upd
      exact getD_set _ _ _ hlt
    have hob2 := hob1 a.eval w (fun j => listed.getD j false) hpl hg.later hS ⟨hnot, hready, fun j p hj hl k hk => hg.closed j p hj hl k hk⟩ (hg.known hok hi hnot hready) hdep
    have yields2 : Yield P o a.eval w (fun v w' => M w w' ∧ F i v w' ∧ S (stage marks (upd (fun j => listed.getD j false) i)) w') → o.wp P a w K Q := fun hy =>
      hy.wp fun v w' hh => hK _ _ (hg.put hok htr hst hi hready hh.1 hh.2.1) (by rw [hupd]; exact hh.2.2)
    have skips2 : F i undef w → S (stage marks (upd (fun j => listed.getD j false) i)) w → K (a.put o.dst undef) w := fun hu hs => hK _ _ (hg.put hok htr hst hi hready (hLM _ _ (hrf _)) hu) (by rw [hupd]; exact hs)
    have yields1 : i ∉ marks → Yield P o a.eval w (fun v w' => L w w' ∧ F i v w') → o.wp P a w K Q := fun hm hy =>
      hy.wp fun v w' hh => hK _ _ (hg.put hok htr hst hi hready (hLM _ _ hh.1) hh.2) (by rw [hupd, stage_other hm]; exact hSL _ _ _ hh.1 hS)
    have skips1 : i ∉ marks → F i undef w → K (a.put o.dst undef) w := fun hm hu => skips2 hu (by rw [stage_other hm]; exact hS)
    unfold wpOp
    rw [show ops.toArray[i]? = some o from by simpa using hi]
    simp only []
    by_cases hmk : i ∈ marks
    · rw [if_pos hmk] at hob2
      cases hgd : o.guard with
      | none =>
        rw [hgd] at hob2
        have : Region.wanted o (yielded ops.toArray a.tmps) = true := by simp [Region.wanted, hgd]
        rw [if_pos this]
        exact .inl (yields2 hob2)
      | some gw =>
        obtain ⟨g, want⟩ := gw
        rw [hgd] at hob2
        simp only [factsOkAt, hgd, Bool.and_eq_true] at hf
        have hwg := hf.2.1
        have hlg := hready g hwg
        have hgl : g < ops.length := by
          rcases Nat.lt_or_ge g ops.length with h | h
          · exact h
          · simp [Array.getD, hg.lsize, Nat.not_lt.2 h] at hlg
        have hog : ops[g]? = some ops[g] := by simp [hgl]
        have hds := hf.2.2
        rw [hog] at hds
        simp only [] at hds
        obtain ⟨t, ht⟩ := Option.isSome_iff_exists.1 hds
        have hleft := hg.left g ops[g] hog hlg
        unfold Left at hleft
        rw [ht] at hleft
        simp only [] at hleft
        have hy : yielded ops.toArray a.tmps g = match a.tmps.getD t undef with | .bool b => some b | _ => none := by
          unfold yielded
          have : ((ops.toArray[g]?).bind (·.dst)) = some t := by simp [hgl, ht]
          rw [this]
          simp only [Option.bind_some, Array.getD_eq_getD_getElem?]
          cases hx : a.tmps[t]? with
          | none => rfl
          | some x => cases x <;> rfl
        have hw : Region.wanted o (yielded ops.toArray a.tmps) = (yielded ops.toArray a.tmps g == some want) := by simp [Region.wanted, hgd]
        rw [hw, hy]
        by_cases hx : a.tmps.getD t undef = .bool want
        · rw [hx]
          simp only [beq_self_eq_true, if_true]
          exact .inl (yields2 (hob2.1 _ hleft hx))
        · have hne : ((match a.tmps.getD t undef with | .bool b => some b | _ => none) == some want) = false := by
            generalize a.tmps.getD t undef = x at hx
            cases x <;> try rfl
            rename_i b
            have hb : b ≠ want := fun e => hx (by rw [e])
            simpa using hb
          rw [hne]
          simp only [Bool.false_eq_true, if_false]
          exact skips2 (hob2.2 _ hleft hx).1 (hob2.2 _ hleft hx).2
    · rw [if_neg hmk] at hob2
      cases hgd : o.guard with
      | none =>
        rw [hgd] at hob2
        have : Region.wanted o (yielded ops.toArray a.tmps) = true := by simp [Region.wanted, hgd]
        rw [if_pos this]
        exact .inl (yields1 hmk hob2)
      | some gw =>
        obtain ⟨g, want⟩ := gw
        rw [hgd] at hob2
        simp only [factsOkAt, hgd, Bool.and_eq_true] at hf
        have hwg := hf.2.1
        have hlg := hready g hwg
        have hgl : g < ops.length := by
          rcases Nat.lt_or_ge g ops.length with h | h
          · exact h
          · simp [Array.getD, hg.lsize, Nat.not_lt.2 h] at hlg
        have hog : ops[g]? = some ops[g] := by simp [hgl]
        have hds := hf.2.2
        rw [hog] at hds
        simp only [] at hds
        obtain ⟨t, ht⟩ := Option.isSome_iff_exists.1 hds
        have hleft := hg.left g ops[g] hog hlg
        unfold Left at hleft
        rw [ht] at hleft
        simp only [] at hleft
        have hy : yielded ops.toArray a.tmps g = match a.tmps.getD t undef with | .bool b => some b | _ => none := by
          unfold yielded
          have : ((ops.toArray[g]?).bind (·.dst)) = some t := by simp [hgl, ht]
          rw [this]
          simp only [Option.bind_some, Array.getD_eq_getD_getElem?]
          cases hx : a.tmps[t]? with
          | none => rfl
          | some x => cases x <;> rfl
        have hw : Region.wanted o (yielded ops.toArray a.tmps) = (yielded ops.toArray a.tmps g == some want) := by simp [Region.wanted, hgd]
        rw [hw, hy]
        by_cases hx : a.tmps.getD t undef = .bool want
        · rw [hx]
          simp only [beq_self_eq_true, if_true]
          exact .inl (yields1 hmk (hob2.1 _ hleft hx))
        · have hne : ((match a.tmps.getD t undef with | .bool b => some b | _ => none) == some want) = false := by
            generalize a.tmps.getD t undef = x at hx
            cases x <;> try rfl
            rename_i b
            have hb : b ≠ want := fun e => hx (by rw [e])
            simpa using hb
          rw [hne]
          simp only [Bool.false_eq_true, if_false]
          exact skips1 hmk (hob2.2 _ hleft hx)
  have main : ∀ (fuel : Nat) (listed : Array Bool) (a : Act) (w : World), (listed.toList.filter (· == false)).length ≤ fuel → Good ops a0 w0 M F listed a w → S (stage marks (fun j => listed.getD j false)) w → (∀ i, m ≤ i → listed.getD i false = false) → wpAny P .any ops.toArray Q fuel listed a w := by
    intro fuel
    have key : ∀ (l : List Bool) (i : Nat) (h : i < l.length), l[i] = false → ((l.set i true).filter (· == false)).length + 1 = (l.filter (· == false)).length := by
      intro l
      induction l with
      | nil => intro i h; simp at h
      | cons x l ihl =>
        intro i h hx
        cases i with
        | zero => simp at hx; subst hx; simp
        | succ i =>
          have := ihl i (by simpa using h) (by simpa using hx)
          cases x <;> simp only [List.set_cons_succ, List.filter_cons, beq_self_eq_true, if_true, List.length_cons] <;> first | omega | (simp; simpa using this)
    have fewer : ∀ (listed : Array Bool) (i : Nat), i < listed.size → listed.getD i false = false → ((listed.setIfInBounds i true).toList.filter (· == false)).length + 1 = (listed.toList.filter (· == false)).length := fun listed i hil hnot => by
      rw [Array.toList_setIfInBounds]
      exact key _ i (by rw [Array.length_toList]; exact hil) (by simpa [Array.getD, hil] using hnot)
    induction fuel with
    | zero =>
      intro listed a w hn hg hS hno
      exfalso
      have h0 : listed.toList.filter (· == false) = [] := List.eq_nil_of_length_eq_zero (by omega)
      rw [List.filter_eq_nil_iff] at h0
      have hil : m < listed.size := by rw [hg.lsize]; exact hml
      have h1 := h0 listed[m] (by simp)
      have h2 := hno m (Nat.le_refl _)
      simp [Array.getD, hil] at h2
      exact h1 (by simp [h2])
    | succ fuel ih =>
      intro listed a w hn hg hS hno
      refine ⟨fun hr => ?_, fun i hmem => ?_⟩
      · have := ready_nil hok hr hg.lsize m hml
        rw [hno m (Nat.le_refl _)] at this
        cases this
      · obtain ⟨o, hi, hnot, hready⟩ := ready_mem hmem hg.lsize
        have hlt := (List.getElem?_eq_some_iff.1 hi).1
        have hfew := fewer listed i (by rw [hg.lsize]; exact hlt) hnot
        rcases Nat.lt_or_ge i m with him | him
        · refine step listed a w i _ hg hS hmem him fun a' w' hg' hS' => ih _ _ _ (by omega) hg' hS' ?_
          intro q hq
          rw [getD_set _ _ _ (by rw [hg.lsize]; exact hlt), if_neg (by omega)]
          exact hno q hq
        · have hie : i = m := by
            rcases Nat.lt_or_ge m i with h | h
            · have := reach_listed hg.closed _ i m o hi hready (tailOk_at ht hlt (by omega) h)
              rw [hno m (Nat.le_refl _)] at this
              cases this
            · omega
          subst hie
          have hdone : ∀ j, j < i → j ∉ fl → listed.getD j false = true := fun j hj hf => reach_listed hg.closed _ i j o hi hready (hneed' j hj hf)
          have hval : ∃ vals : Nat → Value, ∀ j p, ops[j]? = some p → j < i → j ∉ fl → F j (vals j) w ∧ (∀ t, p.dst = some t → a.tmps.getD t undef = vals j) := by
            have : ∀ j, ∃ v, ∀ p, ops[j]? = some p → j < i → j ∉ fl → F j v w ∧ (∀ t, p.dst = some t → a.tmps.getD t undef = v) := by
              intro j
              by_cases hc : j < i ∧ j ∉ fl
              · cases hj : ops[j]? with
                | none => exact ⟨undef, fun p h => by simp at h⟩
                | some p =>
                  have hl := hg.left j p hj (hdone j hc.1 hc.2)
                  unfold Left at hl
                  cases hd : p.dst with
                  | none => rw [hd] at hl; obtain ⟨v, hv⟩ := hl; exact ⟨v, fun p' hp _ _ => by cases hp; exact ⟨hv, fun t h => by rw [hd] at h; cases h⟩⟩
                  | some t => rw [hd] at hl; exact ⟨_, fun p' hp _ _ => by cases hp; exact ⟨hl, fun t' h => by rw [hd] at h; cases h; rfl⟩⟩
              · exact ⟨undef, fun p _ h1 h2 => absurd ⟨h1, h2⟩ hc⟩
            exact ⟨fun j => (this j).choose, fun j => (this j).choose_spec⟩
          obtain ⟨vals, hv⟩ := hval
          have hfull : stage marks (fun j => listed.getD j false) = marks.length := by
            unfold stage
            rw [List.filter_eq_self.2 (fun j hj => hdone j (hmarks j hj).1 (hmarks j hj).2)]
          rw [hfull] at hS
          rw [hi] at hturn
          obtain ⟨hgd, hy⟩ := hturn
          have hpl : Plain a.eval := ⟨fun _ => rfl, fun _ => rfl, fun _ => rfl⟩
          have hy := hy a.eval vals w hpl hg.later hS (fun j hj hf => (hv j ops[j] (by simp [Nat.lt_trans hj hml]) hj hf).1) (fun j p t hj h1 h2 h3 => (hv j p hj h1 h2).2 t h3) (hg.known hok hi hnot hready)
          unfold wpOp
          rw [show ops.toArray[i]? = some o from by simpa using hi]
          simp only []
          have hwt : Region.wanted o (yielded ops.toArray a.tmps) = true := by simp [Region.wanted, hgd]
          rw [if_pos hwt]
          refine .inl (hy.wp fun v w' hh => ?_)
          obtain ⟨hf2, hR, h1, h2⟩ := hh
          have hg2 : Good ops a0 w' (fun a b => a = b) F2 listed a w' := by
            refine ⟨rfl, hg.defers, hg.size, hg.lsize, hg.closed, fun j p hj hlj => ?_, hg.old⟩
            have hji : j < i := by
              rcases Nat.lt_or_ge j i with h | h
              · exact h
              · rw [hno j h] at hlj; cases hlj
            have hl := hg.left j p hj hlj
            by_cases hjf : j ∈ fl
            · unfold Left at hl ⊢
              cases hd : p.dst with
              | none => rw [hd] at hl; obtain ⟨u, hu⟩ := hl; exact ⟨u, h2 j hjf u hu⟩
              | some t => rw [hd] at hl; exact h2 j hjf _ hl
            · unfold Left
              cases hd : p.dst with
              | none => exact ⟨_, h1 j hji hjf⟩
              | some t =>
                show F2 j (a.tmps.getD t undef) w'
                rw [(hv j p hj hji hjf).2 t hd]
                exact h1 j hji hjf
          have hg3 := hg2.put hok (fun _ _ _ h k => h.trans k) (fun _ _ _ _ h k => k ▸ h) hi hready (w' := w') rfl hf2
          refine facts_rest_to (a0 := a0) (w0 := w') (L := fun a b => a = b) (F := F2) (i + 1) ht (by omega) fl hok (fun _ _ _ h k => h.trans k) (fun _ => rfl) (fun _ _ _ _ h k => k ▸ h) (fun j p hj hin => (hob2 w' hR).at j p hj hin) (fun fu ls a w h1 h2 h3 => tail_any (i + 1) hok ht fu (i + 1) ls a w (by omega) (Nat.le_refl _) (by omega) h2.lsize h3 (last w' hR ls a w h2 h3)) _ _ _ _ (by omega) hg3 (fun j hj hr => ?_) (fun j hj => ?_)
          · rw [getD_set _ _ _ (by rw [hg.lsize]; exact hlt)]
            split
            · rfl
            · next hne => exact hdone j (by omega) hr
          · rw [getD_set _ _ _ (by rw [hg.lsize]; exact hlt), if_neg (by omega)]
            exact hno j (by omega)
  refine main _ _ _ _ ?_ ⟨hLM _ _ hdr, rfl, rfl, by simp, ?_, ?_, fun _ _ => rfl⟩ ?_ ?_
  · simp only [List.size_toArray]
    simp
  · intro j o hj hl
    simp [Array.getD] at hl
  · intro j o hj hl
    simp [Array.getD] at hl
  · have hz : stage marks (fun j => (Array.replicate ops.toArray.size false).getD j false) = 0 := by
      unfold stage
      rw [List.length_eq_zero_iff, List.filter_eq_nil_iff]
      intro i _
      simp [Array.getD]
    rw [hz]
    exact hSL _ _ _ hdr h0
  · intro i _
    simp [Array.getD]
end
end Go.Proofs.Ytkpcmedmiiohnaa
