/-
  A region that draws its order, of which the last operations wait for all ahead of them: the first ones by facts, the last ones one behind the other. No program.
-/
import Derived.Test.YtpefengjpedifaaRegion
namespace Go.Proofs.Ytpefengjpedifaa
open Go.RowKit

/-- Does operation i wait for operation j, over others too? -/
def reach (ops : List Oper) : Nat → Nat → Nat → Bool
  | 0, _, _ => false
  | f + 1, i, j => match ops[i]? with
    | none => false
    | some o => waitsFor o j || (List.range i).any (fun k => waitsFor o k && reach ops f k j)
/-- From m on each operation waits for all ahead of it. -/
def tailOk (ops : List Oper) (m : Nat) : Bool := (List.range ops.length).all fun i => decide (i < m) || (List.range i).all fun j => reach ops ops.length i j
theorem tailOk_at {ops : List Oper} {m i j : Nat} (h : tailOk ops m = true) (hi : i < ops.length) (hm : m ≤ i) (hj : j < i) : reach ops ops.length i j = true := by
  unfold tailOk at h
  rw [List.all_eq_true] at h
  have := h i (List.mem_range.2 hi)
  rw [Bool.or_eq_true, decide_eq_true_eq, List.all_eq_true] at this
  rcases this with h | h
  · omega
  · exact h j (List.mem_range.2 hj)

section
variable {P : Program} {ops : List Oper} {a0 : Act} {w0 : World} {L : World → World → Prop} {F : Nat → Value → World → Prop} {Q : Exit → Act → World → Prop}

theorem reach_listed {listed : Array Bool} (hcl : ∀ j o, ops[j]? = some o → listed.getD j false = true → ∀ i, waitsFor o i = true → listed.getD i false = true) :
    ∀ (f i j : Nat) (o : Oper), ops[i]? = some o → (∀ k, waitsFor o k = true → listed.getD k false = true) → reach ops f i j = true → listed.getD j false = true := by
  intro f
  induction f with
  | zero => intro i j o _ _ h; simp [reach] at h
  | succ f ih =>
    intro i j o hi hr h
    unfold reach at h
    rw [hi] at h
    simp only [Bool.or_eq_true, List.any_eq_true, Bool.and_eq_true] at h
    rcases h with h | ⟨k, _, h1, h2⟩
    · exact hr j h
    · have hk := hr k h1
      cases hok : ops[k]? with
      | none =>
        cases f with
        | zero => simp [reach] at h2
        | succ f => simp [reach, hok] at h2
      | some p => exact ih k j p hok (hcl k p hok hk) h2

/-- The last ones, one behind the other. -/
theorem tail_any (m : Nat) (hok : factsOk ops a0.tmps.size = true) (ht : tailOk ops m = true) : ∀ (fuel k : Nat) (listed : Array Bool) (a : Act) (w : World), ops.length ≤ k + fuel → m ≤ k → k ≤ ops.length → listed.size = ops.length →
    (∀ i, i < ops.length → (listed.getD i false = true ↔ i < k)) → wpList P ops.toArray Q (ops.drop k) a w → wpAny P .any ops.toArray Q fuel listed a w := by
  intro fuel
  induction fuel with
  | zero =>
    intro k listed a w hf hm hk hs hl h
    obtain rfl : k = ops.length := by omega
    rw [List.drop_length] at h
    refine ⟨?_, h⟩
    rw [List.eq_nil_iff_forall_not_mem]
    intro i hmem
    obtain ⟨o, hi, hnot, _⟩ := ready_mem hmem hs
    have hlt := (List.getElem?_eq_some_iff.1 hi).1
    rw [(hl i hlt).2 hlt] at hnot
    exact absurd hnot (by simp)
  | succ fuel ih =>
    intro k listed a w hf hm hk hs hl h
    refine ⟨fun hr => ?_, fun i hmem => ?_⟩
    · have hall := ready_nil hok hr hs
      have hkl : k = ops.length := by
        rcases Nat.lt_or_ge k ops.length with hlt | hge
        · have := (hl k hlt).1 (hall k hlt); omega
        · omega
      subst hkl
      rw [List.drop_length] at h
      exact h
    · obtain ⟨o, hi, hnot, hready⟩ := ready_mem hmem hs
      have hlt := (List.getElem?_eq_some_iff.1 hi).1
      have hki : k ≤ i := by
        rcases Nat.lt_or_ge i k with h' | h'
        · rw [(hl i hlt).2 h'] at hnot; exact absurd hnot (by simp)
        · exact h'
      have hcl : ∀ j p, ops[j]? = some p → listed.getD j false = true → ∀ q, waitsFor p q = true → listed.getD q false = true := by
        intro j p hj hlj q hq
        have hjlt := (List.getElem?_eq_some_iff.1 hj).1
        have hjk := (hl j hjlt).1 hlj
        have hfa := factsOk_at hok hj
        simp only [factsOkAt, Bool.and_eq_true] at hfa
        have h2 := hfa.1.1.2
        rw [List.all_eq_true] at h2
        unfold waitsFor at hq
        rw [List.any_eq_true] at hq
        obtain ⟨e, he, h3⟩ := hq
        simp only [Bool.and_eq_true, beq_iff_eq] at h3
        have h4 := h2 e he
        rw [h3.1] at h4
        simp at h4
        rw [← h3.2]
        exact (hl e.on (by omega)).2 (by omega)
      have hik : i = k := by
        rcases Nat.lt_or_ge k i with h' | h'
        · have := reach_listed hcl _ i k o hi hready (tailOk_at ht hlt (by omega) h')
          have := (hl k (by omega)).1 this
          omega
        · omega
      subst hik
      have hd : ops.drop i = o :: ops.drop (i + 1) := by
        rw [List.drop_eq_getElem_cons hlt]
        have : ops[i] = o := (List.getElem?_eq_some_iff.1 hi).2
        rw [this]
      rw [hd] at h
      have hset : ∀ q, q < ops.length → ((listed.setIfInBounds i true).getD q false = true ↔ q < i + 1) := by
        intro q hq
        rw [getD_set _ _ _ (by rw [hs]; exact hlt)]
        by_cases e : i = q
        · subst e; simp
        · rw [if_neg e, hl q hq]; omega
      have hK : ∀ a' w', wpList P ops.toArray Q (ops.drop (i + 1)) a' w' → wpAny P .any ops.toArray Q fuel (listed.setIfInBounds i true) a' w' := fun a' w' h' =>
        ih (i + 1) _ a' w' (by omega) (by omega) (by omega) (by simp [hs]) hset h'
      unfold wpOp
      rw [show ops.toArray[i]? = some o from by simpa using hi]
      simp only [wpList] at h ⊢
      split at h
      · rename_i hw
        rw [if_pos hw]
        rcases h with h | h
        · exact .inl (Oper.wp_mono hK h)
        · exact .inr h
      · rename_i hw
        rw [if_neg hw]
        exact hK _ _ h

/-- THE LAW. -/
theorem wp_region_tail {id : Nat} (hm : P.follows .mixedOrders = true) (m : Nat) (L : World → World → Prop) (F : Nat → Value → World → Prop) (hok : factsOk ops a0.tmps.size = true) (ht : tailOk ops m = true) (hml : m < ops.length)
    (htr : ∀ a b c, L a b → L b c → L a c) (hrf : ∀ a, L a a) (hdr : L w0 w0.drew) (hst : ∀ i v w w', F i v w → L w w' → F i v w') (hob : Obls P ops a0 w0 L F 0 (ops.take m))
    (hend : ∀ (vals : Nat → Value) w, L w0 w → (∀ i, i < m → F i (vals i) w) → wpList P ops.toArray Q (ops.drop m) (putAll vals 0 (ops.take m) a0) w) : (Code.region id ops.toArray true).wp P Q a0 w0 := by
  refine wp_region_any hm ?_
  have finish : ∀ listed a w, Good ops a0 w0 L F listed a w → (∀ i, i < ops.length → (listed.getD i false = true ↔ i < m)) → wpList P ops.toArray Q (ops.drop m) a w := by
    intro listed a w hg hall
    have hval : ∃ vals : Nat → Value, ∀ i o, (ops.take m)[i]? = some o → F i (vals i) w ∧ (∀ t, o.dst = some t → vals i = a.tmps.getD t undef) := by
      have : ∀ i, ∃ v, ∀ o, (ops.take m)[i]? = some o → F i v w ∧ (∀ t, o.dst = some t → v = a.tmps.getD t undef) := by
        intro i
        cases hi : (ops.take m)[i]? with
        | none => exact ⟨undef, fun o h => by simp at h⟩
        | some o =>
          have hil := (List.getElem?_eq_some_iff.1 hi).1
          rw [List.length_take] at hil
          have hio : ops[i]? = some o := by rw [List.getElem?_take] at hi; split at hi <;> simp_all
          have hl := hg.left i o hio ((hall i (by omega)).2 (by omega))
          unfold Left at hl
          cases hd : o.dst with
          | none => rw [hd] at hl; obtain ⟨v, hv⟩ := hl; exact ⟨v, fun p hp => by cases hp; exact ⟨hv, fun t h => by rw [hd] at h; cases h⟩⟩
          | some t => rw [hd] at hl; exact ⟨_, fun p hp => by cases hp; exact ⟨hl, fun t' h => by rw [hd] at h; cases h; rfl⟩⟩
      exact ⟨fun i => (this i).choose, fun i => (this i).choose_spec⟩
    obtain ⟨vals, hv⟩ := hval
    have e : a = putAll vals 0 (ops.take m) a0 := by
      have h1 : a.tmps = (putAll vals 0 (ops.take m) a0).tmps := by
        apply Array.ext_getElem?
        intro t
        have hsz : a.tmps.size = (putAll vals 0 (ops.take m) a0).tmps.size := by rw [putAll_size, hg.size]
        have hgd : a.tmps.getD t undef = (putAll vals 0 (ops.take m) a0).tmps.getD t undef := by
          rcases putAll_getD vals t (ops.take m) 0 a0 (fun o ho d hd => by
            obtain ⟨i, hi⟩ := List.getElem?_of_mem (List.mem_of_mem_take ho)
            have hf := factsOk_at hok hi
            simp only [factsOkAt, hd, Bool.and_eq_true, decide_eq_true_eq] at hf
            exact hf.1.1.1.2.2) with ⟨h1, h2⟩ | ⟨i, o, h1, h2, h3⟩
          · rw [h1]
            refine hg.old t fun j p hj hlj => h2 j p ?_
            have hjl := (List.getElem?_eq_some_iff.1 hj).1
            have hjm := (hall j hjl).1 hlj
            rw [List.getElem?_take, if_pos hjm]; exact hj
          · rw [h3, Nat.zero_add]; exact ((hv i o h1).2 t h2).symm
        by_cases ht : t < a.tmps.size
        · have ht' : t < (putAll vals 0 (ops.take m) a0).tmps.size := hsz ▸ ht
          rw [Array.getElem?_eq_getElem ht, Array.getElem?_eq_getElem ht']
          simpa [Array.getD, ht, ht'] using hgd
        · rw [Array.getElem?_eq_none (by omega), Array.getElem?_eq_none (by omega)]
      have h2 : a.defers = (putAll vals 0 (ops.take m) a0).defers := by rw [putAll_defers, hg.defers]
      cases a
      generalize putAll vals 0 (ops.take m) a0 = b at *
      cases b
      simp only at h1 h2
      rw [h1, h2]
    rw [e]
    exact hend vals w hg.later fun i hi => (hv i ops[i] (by rw [List.getElem?_take, if_pos hi]; simp)).1
  have step : ∀ (listed : Array Bool) (a : Act) (w : World) (i : Nat) (K : Act → World → Prop), Good ops a0 w0 L F listed a w → i ∈ Region.ready .any ops.toArray listed → i < m →
      (∀ a' w', Good ops a0 w0 L F (listed.setIfInBounds i true) a' w' → K a' w') → wpOp P ops.toArray Q i K a w := by
    intro listed a w i K hg hmem him hK
    obtain ⟨o, hi, hnot, hready⟩ := ready_mem hmem hg.lsize
    have hob1 := Obls.at (ops.take m) 0 hob i o (by rw [List.getElem?_take, if_pos him]; exact hi)
    rw [Nat.zero_add] at hob1
    have hf := factsOk_at hok hi
    have hpl : Plain a.eval := ⟨fun _ => rfl, fun _ => rfl, fun _ => rfl⟩
    have hdep : ∀ j, waitsFor o j = true → ∃ v, F j v w := by
      intro j hj
      have hlj := hready j hj
      have hjl : j < ops.length := by
        rcases Nat.lt_or_ge j ops.length with h | h
        · exact h
        · simp [Array.getD, hg.lsize, Nat.not_lt.2 h] at hlj
      have := hg.left j ops[j] (by simp [hjl]) hlj
      unfold Left at this
      cases hd : ops[j].dst with
      | none => rw [hd] at this; exact this
      | some t => rw [hd] at this; exact ⟨_, this⟩
    have hob2 := hob1 a.eval w hpl hg.later (hg.known hok hi hnot hready) hdep
    have yields : Yield P o a.eval w (fun v w' => L w w' ∧ F i v w') → o.wp P a w K Q := fun hy =>
      hy.wp fun v w' hh => hK _ _ (hg.put hok htr hst hi hready hh.1 hh.2)
    have skips : F i undef w → K (a.put o.dst undef) w := fun hu => hK _ _ (hg.put hok htr hst hi hready (hrf _) hu)
    unfold wpOp
    rw [show ops.toArray[i]? = some o from by simpa using hi]
    simp only []
    cases hgd : o.guard with
    | none =>
      rw [hgd] at hob2
      have : Region.wanted o (yielded ops.toArray a.tmps) = true := by simp [Region.wanted, hgd]
      rw [if_pos this]
      exact .inl (yields hob2)
    | some gw =>
      obtain ⟨g, want⟩ := gw
      rw [hgd] at hob2
      simp only [factsOkAt, hgd, Bool.and_eq_true] at hf
      have hwg := hf.2.1
      have hlg := hready g hwg
      have hgl : g < ops.length := by
        rcases Nat.lt_or_ge g ops.length with h | h
        · exact h
        · simp [Array.getD, hg.lsize, Nat.not_lt.2 h] at hlg
      have hog : ops[g]? = some ops[g] := by simp [hgl]
      have hds := hf.2.2
      rw [hog] at hds
      simp only [] at hds
      obtain ⟨t, ht⟩ := Option.isSome_iff_exists.1 hds
      have hleft := hg.left g ops[g] hog hlg
      unfold Left at hleft
      rw [ht] at hleft
      simp only [] at hleft
      have hy : yielded ops.toArray a.tmps g = match a.tmps.getD t undef with | .bool b => some b | _ => none := by
        unfold yielded
        have : ((ops.toArray[g]?).bind (·.dst)) = some t := by simp [hgl, ht]
        rw [this]
        simp only [Option.bind_some, Array.getD_eq_getD_getElem?]
        cases hx : a.tmps[t]? with
        | none => rfl
        | some x => cases x <;> rfl
      have hw : Region.wanted o (yielded ops.toArray a.tmps) = (yielded ops.toArray a.tmps g == some want) := by simp [Region.wanted, hgd]
      rw [hw, hy]
      by_cases hx : a.tmps.getD t undef = .bool want
      · rw [hx]
        simp only [beq_self_eq_true, if_true]
        exact .inl (yields (hob2.1 _ hleft hx))
      · have hne : ((match a.tmps.getD t undef with | .bool b => some b | _ => none) == some want) = false := by
          generalize a.tmps.getD t undef = x at hx
          cases x <;> try rfl
          rename_i b
          have hb : b ≠ want := fun e => hx (by rw [e])
          simpa using hb
        rw [hne]
        simp only [Bool.false_eq_true, if_false]
        exact skips (hob2.2 _ hleft hx)
  have main : ∀ (fuel : Nat) (listed : Array Bool) (a : Act) (w : World), (listed.toList.filter (· == false)).length ≤ fuel → Good ops a0 w0 L F listed a w → (∀ i, m ≤ i → listed.getD i false = false) → wpAny P .any ops.toArray Q fuel listed a w := by
    intro fuel
    have hfull : ∀ (listed : Array Bool) (a : Act) (w : World) (i : Nat), Good ops a0 w0 L F listed a w → (∀ i, m ≤ i → listed.getD i false = false) → i ∈ Region.ready .any ops.toArray listed → m ≤ i → ∀ j, j < ops.length → (listed.getD j false = true ↔ j < m) := by
      intro listed a w i hg hno hmem him j hj
      obtain ⟨o, hi, hnot, hready⟩ := ready_mem hmem hg.lsize
      have hlt := (List.getElem?_eq_some_iff.1 hi).1
      constructor
      · intro h
        rcases Nat.lt_or_ge j m with h' | h'
        · exact h'
        · rw [hno j h'] at h; cases h
      · intro h
        exact reach_listed hg.closed _ i j o hi hready (tailOk_at ht hlt him (by omega))
    induction fuel with
    | zero =>
      intro listed a w hn hg hno
      exfalso
      have h0 : listed.toList.filter (· == false) = [] := List.eq_nil_of_length_eq_zero (by omega)
      rw [List.filter_eq_nil_iff] at h0
      have hil : m < listed.size := by rw [hg.lsize]; exact hml
      have h1 := h0 listed[m] (by simp)
      have h2 := hno m (Nat.le_refl _)
      simp [Array.getD, hil] at h2
      exact h1 (by simp [h2])
    | succ fuel ih =>
      intro listed a w hn hg hno
      by_cases hful : ∃ i, i ∈ Region.ready .any ops.toArray listed ∧ m ≤ i
      · obtain ⟨i, hmem, him⟩ := hful
        have hall := hfull listed a w i hg hno hmem him
        refine tail_any m hok ht (fuel + 1) m listed a w ?_ (Nat.le_refl _) (Nat.le_of_lt hml) hg.lsize hall (finish listed a w hg hall)
        have hcount : ops.length - m ≤ (listed.toList.filter (· == false)).length := by
          have h3 : listed.toList.drop m = List.replicate (ops.length - m) false := by
            apply List.ext_getElem
            · simp [hg.lsize]
            · intro q h1 h2
              simp only [List.getElem_drop, List.getElem_replicate]
              have hq : m + q < listed.size := by simp at h1; omega
              have := hno (m + q) (by omega)
              simpa [Array.getD, hq] using this
          have h4 : listed.toList = listed.toList.take m ++ listed.toList.drop m := (List.take_append_drop _ _).symm
          rw [h4, List.filter_append, List.length_append, h3]
          simp
        omega
      · have hlow : ∀ i, i ∈ Region.ready .any ops.toArray listed → i < m := fun i hi => by
          rcases Nat.lt_or_ge i m with h | h
          · exact h
          · exact absurd ⟨i, hi, h⟩ hful
        refine ⟨fun hr => ?_, fun i hmem => ?_⟩
        · have := ready_nil hok hr hg.lsize m hml
          rw [hno m (Nat.le_refl _)] at this
          cases this
        · refine step listed a w i _ hg hmem (hlow i hmem) fun a' w' hg' => ih _ _ _ ?_ hg' ?_
          · obtain ⟨o, hi, hnot, _⟩ := ready_mem hmem hg.lsize
            have hil : i < listed.toList.length := by rw [Array.length_toList, hg.lsize]; exact (List.getElem?_eq_some_iff.1 hi).1
            have hb : listed.toList[i] = false := by
              have : i < listed.size := by simpa using hil
              simpa [Array.getD, this] using hnot
            rw [Array.toList_setIfInBounds]
            have key : ∀ (l : List Bool) (i : Nat) (h : i < l.length), l[i] = false → ((l.set i true).filter (· == false)).length + 1 = (l.filter (· == false)).length := by
              intro l
              induction l with
              | nil => intro i h; simp at h
              | cons x l ihl =>
                intro i h hx
                cases i with
                | zero => simp at hx; subst hx; simp
                | succ i =>
                  have := ihl i (by simpa using h) (by simpa using hx)
                  cases x <;> simp only [List.set_cons_succ, List.filter_cons, beq_self_eq_true, if_true, List.length_cons] <;> first | omega | (simp; simpa using this)
            have := key _ i hil hb
            omega
          · intro q hq
            obtain ⟨o, hi, _, _⟩ := ready_mem hmem hg.lsize
            rw [getD_set _ _ _ (by rw [hg.lsize]; exact (List.getElem?_eq_some_iff.1 hi).1), if_neg (by have := hlow i hmem; omega)]
            exact hno q hq
  refine main _ _ _ _ ?_ ⟨hdr, rfl, rfl, by simp, ?_, ?_, fun _ _ => rfl⟩ ?_
  · simp only [List.size_toArray]
    simp
  · intro j o hj hl
    simp [Array.getD] at hl
  · intro j o hj hl
    simp [Array.getD] at hl
  · intro i _
    simp [Array.getD]
end
end Go.Proofs.Ytpefengjpedifaa
