/-
  A region that draws its order, by facts, with operations among it that turn what others read: the turning ones are marked, and wait for one another; how many of them are behind us tells the state. No program.
-/
import Derived.Test.YtpefengjpedifaaRegion
namespace Go.Proofs.Ytpefengjpedifaa
set_option linter.unusedSimpArgs false
set_option linter.unusedVariables false
open Go.RowKit

/-- One operation more is behind us. -/
def upd (ls : Nat → Bool) (i : Nat) : Nat → Bool := fun j => if i = j then true else ls j
/-- How many of the marked ones are. -/
def stage (marks : List Nat) (ls : Nat → Bool) : Nat := (marks.filter ls).length
theorem stage_other {marks : List Nat} {ls : Nat → Bool} {i : Nat} (h : i ∉ marks) : stage marks (upd ls i) = stage marks ls := by
  unfold stage
  congr 1
  refine List.filter_congr fun x hx => ?_
  unfold upd
  have hne : i ≠ x := by rintro rfl; exact h hx
  rw [if_neg hne]

/-- What is known of what is behind us. -/
structure Behind (ops : List Oper) (o : Oper) (i : Nat) (ls : Nat → Bool) : Prop where
  notyet : ls i = false
  ready : ∀ j, waitsFor o j = true → ls j = true
  closed : ∀ j p, ops[j]? = some p → ls j = true → ∀ k, waitsFor p k = true → ls k = true

def Obl2 (P : Program) (ops : List Oper) (a0 : Act) (w0 : World) (L M : World → World → Prop) (F : Nat → Value → World → Prop) (marks : List Nat) (S : Nat → World → Prop) (i : Nat) (o : Oper) : Prop :=
  ∀ (ev : Operand → Value) (w : World) (ls : Nat → Bool), Plain ev → M w0 w → S (stage marks ls) w → Behind ops o i ls → (∀ t, t ∈ opTmps o → Known ops a0 F o t (ev (.tmp t)) w) → (∀ j, waitsFor o j = true → ∃ v, F j v w) →
    if i ∈ marks then
      match o.guard with
      | none => Yield P o ev w (fun v w' => M w w' ∧ F i v w' ∧ S (stage marks (upd ls i)) w')
      | some (g, want) => (∀ x, F g x w → x = .bool want → Yield P o ev w (fun v w' => M w w' ∧ F i v w' ∧ S (stage marks (upd ls i)) w')) ∧ (∀ x, F g x w → x ≠ .bool want → F i undef w ∧ S (stage marks (upd ls i)) w)
    else
      match o.guard with
      | none => Yield P o ev w (fun v w' => L w w' ∧ F i v w')
      | some (g, want) => (∀ x, F g x w → x = .bool want → Yield P o ev w (fun v w' => L w w' ∧ F i v w')) ∧ (∀ x, F g x w → x ≠ .bool want → F i undef w)

def Obls2 (P : Program) (ops : List Oper) (a0 : Act) (w0 : World) (L M : World → World → Prop) (F : Nat → Value → World → Prop) (marks : List Nat) (S : Nat → World → Prop) : Nat → List Oper → Prop
  | _, [] => True
  | k, o :: rest => Obl2 P ops a0 w0 L M F marks S k o ∧ Obls2 P ops a0 w0 L M F marks S (k + 1) rest
section
variable {P : Program} {ops : List Oper} {a0 : Act} {w0 : World} {L M : World → World → Prop} {F : Nat → Value → World → Prop} {marks : List Nat} {S : Nat → World → Prop} {Q : Exit → Act → World → Prop}
theorem Obls2.at : ∀ (l : List Oper) (k : Nat), Obls2 P ops a0 w0 L M F marks S k l → ∀ i o, l[i]? = some o → Obl2 P ops a0 w0 L M F marks S (k + i) o := by
  intro l
  induction l with
  | nil => intro k _ i o h; simp at h
  | cons x l ih =>
    intro k h i o hi
    cases i with
    | zero => simp at hi; subst hi; exact h.1
    | succ i =>
      have := ih (k + 1) h.2 i o (by simpa using hi)
      rwa [Nat.add_assoc, Nat.add_comm 1 i] at this
theorem Obls2.cons {k : Nat} {o : Oper} {rest : List Oper} (h : Obl2 P ops a0 w0 L M F marks S k o) (hr : Obls2 P ops a0 w0 L M F marks S (k + 1) rest) : Obls2 P ops a0 w0 L M F marks S k (o :: rest) := ⟨h, hr⟩
theorem Obls2.nil {k : Nat} : Obls2 P ops a0 w0 L M F marks S k [] := trivial

theorem facts_any2 (hok : factsOk ops a0.tmps.size = true) (htr : ∀ a b c, M a b → M b c → M a c) (hrf : ∀ a, L a a) (hLM : ∀ a b, L a b → M a b) (hSL : ∀ k a b, L a b → S k a → S k b) (hst : ∀ i v w w', F i v w → M w w' → F i v w') (hob : Obls2 P ops a0 w0 L M F marks S 0 ops)
    (hend : ∀ listed a w, Good ops a0 w0 M F listed a w → S (stage marks (fun j => listed.getD j false)) w → (∀ i, i < ops.length → listed.getD i false = true) → Q .normal a w) :
    ∀ (fuel : Nat) (listed : Array Bool) (a : Act) (w : World), (listed.toList.filter (· == false)).length ≤ fuel → Good ops a0 w0 M F listed a w → S (stage marks (fun j => listed.getD j false)) w → wpAny P .any ops.toArray Q fuel listed a w := by
  intro fuel
  have step : ∀ (listed : Array Bool) (a : Act) (w : World) (i : Nat) (K : Act → World → Prop), Good ops a0 w0 M F listed a w → S (stage marks (fun j => listed.getD j false)) w → i ∈ Region.ready .any ops.toArray listed →
      (∀ a' w', Good ops a0 w0 M F (listed.setIfInBounds i true) a' w' → S (stage marks (fun j => (listed.setIfInBounds i true).getD j false)) w' → K a' w') → wpOp P ops.toArray Q i K a w := by
    intro listed a w i K hg hS hm hK
    obtain ⟨o, hi, hnot, hready⟩ := ready_mem hm hg.lsize
    have hob1 := Obls2.at ops 0 hob i o hi
    rw [Nat.zero_add] at hob1
    have hf := factsOk_at hok hi
    have hpl : Plain a.eval := ⟨fun _ => rfl, fun _ => rfl, fun _ => rfl⟩
    have hdep : ∀ j, waitsFor o j = true → ∃ v, F j v w := by
      intro j hj
      have hlj := hready j hj
      have hjl : j < ops.length := by
        rcases Nat.lt_or_ge j ops.length with h | h
        · exact h
        · simp [Array.getD, hg.lsize, Nat.not_lt.2 h] at hlj
      have := hg.left j ops[j] (by simp [hjl]) hlj
      unfold Left at this
      cases hd : ops[j].dst with
      | none => rw [hd] at this; exact this
      | some t => rw [hd] at this; exact ⟨_, this⟩
    have hlt : i < listed.size := by rw [hg.lsize]; exact (List.getElem?_eq_some_iff.1 hi).1
    have hupd : (fun j => (listed.setIfInBounds i true).getD j false) = upd (fun j => listed.getD j false) i := by
      funext j
      unfold upd
      exact getD_set _ _ _ hlt
    have hob2 := hob1 a.eval w (fun j => listed.getD j false) hpl hg.later hS ⟨hnot, hready, fun j p hj hl k hk => hg.closed j p hj hl k hk⟩ (hg.known hok hi hnot hready) hdep
    have yields2 : Yield P o a.eval w (fun v w' => M w w' ∧ F i v w' ∧ S (stage marks (upd (fun j => listed.getD j false) i)) w') → o.wp P a w K Q := fun hy =>
      hy.wp fun v w' hh => hK _ _ (hg.put hok htr hst hi hready hh.1 hh.2.1) (by rw [hupd]; exact hh.2.2)
    have skips2 : F i undef w → S (stage marks (upd (fun j => listed.getD j false) i)) w → K (a.put o.dst undef) w := fun hu hs => hK _ _ (hg.put hok htr hst hi hready (hLM _ _ (hrf _)) hu) (by rw [hupd]; exact hs)
    have yields1 : i ∉ marks → Yield P o a.eval w (fun v w' => L w w' ∧ F i v w') → o.wp P a w K Q := fun hm hy =>
      hy.wp fun v w' hh => hK _ _ (hg.put hok htr hst hi hready (hLM _ _ hh.1) hh.2) (by rw [hupd, stage_other hm]; exact hSL _ _ _ hh.1 hS)
    have skips1 : i ∉ marks → F i undef w → K (a.put o.dst undef) w := fun hm hu => skips2 hu (by rw [stage_other hm]; exact hS)
    unfold wpOp
    rw [show ops.toArray[i]? = some o from by simpa using hi]
    simp only []
    by_cases hmk : i ∈ marks
    · rw [if_pos hmk] at hob2
      cases hgd : o.guard with
      | none =>
        rw [hgd] at hob2
        have : Region.wanted o (yielded ops.toArray a.tmps) = true := by simp [Region.wanted, hgd]
        rw [if_pos this]
        exact .inl (yields2 hob2)
      | some gw =>
        obtain ⟨g, want⟩ := gw
        rw [hgd] at hob2
        simp only [factsOkAt, hgd, Bool.and_eq_true] at hf
        have hwg := hf.2.1
        have hlg := hready g hwg
        have hgl : g < ops.length := by
          rcases Nat.lt_or_ge g ops.length with h | h
          · exact h
          · simp [Array.getD, hg.lsize, Nat.not_lt.2 h] at hlg
        have hog : ops[g]? = some ops[g] := by simp [hgl]
        have hds := hf.2.2
        rw [hog] at hds
        simp only [] at hds
        obtain ⟨t, ht⟩ := Option.isSome_iff_exists.1 hds
        have hleft := hg.left g ops[g] hog hlg
        unfold Left at hleft
        rw [ht] at hleft
        simp only [] at hleft
        have hy : yielded ops.toArray a.tmps g = match a.tmps.getD t undef with | .bool b => some b | _ => none := by
          unfold yielded
          have : ((ops.toArray[g]?).bind (·.dst)) = some t := by simp [hgl, ht]
          rw [this]
          simp only [Option.bind_some, Array.getD_eq_getD_getElem?]
          cases hx : a.tmps[t]? with
          | none => rfl
          | some x => cases x <;> rfl
        have hw : Region.wanted o (yielded ops.toArray a.tmps) = (yielded ops.toArray a.tmps g == some want) := by simp [Region.wanted, hgd]
        rw [hw, hy]
        by_cases hx : a.tmps.getD t undef = .bool want
        · rw [hx]
          simp only [beq_self_eq_true, if_true]
          exact .inl (yields2 (hob2.1 _ hleft hx))
        · have hne : ((match a.tmps.getD t undef with | .bool b => some b | _ => none) == some want) = false := by
            generalize a.tmps.getD t undef = x at hx
            cases x <;> try rfl
            rename_i b
            have hb : b ≠ want := fun e => hx (by rw [e])
            simpa using hb
          rw [hne]
          simp only [Bool.false_eq_true, if_false]
          exact skips2 (hob2.2 _ hleft hx).1 (hob2.2 _ hleft hx).2
    · rw [if_neg hmk] at hob2
      cases hgd : o.guard with
      | none =>
        rw [hgd] at hob2
        have : Region.wanted o (yielded ops.toArray a.tmps) = true := by simp [Region.wanted, hgd]
        rw [if_pos this]
        exact .inl (yields1 hmk hob2)
      | some gw =>
        obtain ⟨g, want⟩ := gw
        rw [hgd] at hob2
        simp only [factsOkAt, hgd, Bool.and_eq_true] at hf
        have hwg := hf.2.1
        have hlg := hready g hwg
        have hgl : g < ops.length := by
          rcases Nat.lt_or_ge g ops.length with h | h
          · exact h
          · simp [Array.getD, hg.lsize, Nat.not_lt.2 h] at hlg
        have hog : ops[g]? = some ops[g] := by simp [hgl]
        have hds := hf.2.2
        rw [hog] at hds
        simp only [] at hds
        obtain ⟨t, ht⟩ := Option.isSome_iff_exists.1 hds
        have hleft := hg.left g ops[g] hog hlg
        unfold Left at hleft
        rw [ht] at hleft
        simp only [] at hleft
        have hy : yielded ops.toArray a.tmps g = match a.tmps.getD t undef with | .bool b => some b | _ => none := by
          unfold yielded
          have : ((ops.toArray[g]?).bind (·.dst)) = some t := by simp [hgl, ht]
          rw [this]
          simp only [Option.bind_some, Array.getD_eq_getD_getElem?]
          cases hx : a.tmps[t]? with
          | none => rfl
          | some x => cases x <;> rfl
        have hw : Region.wanted o (yielded ops.toArray a.tmps) = (yielded ops.toArray a.tmps g == some want) := by simp [Region.wanted, hgd]
        rw [hw, hy]
        by_cases hx : a.tmps.getD t undef = .bool want
        · rw [hx]
          simp only [beq_self_eq_true, if_true]
          exact .inl (yields1 hmk (hob2.1 _ hleft hx))
        · have hne : ((match a.tmps.getD t undef with | .bool b => some b | _ => none) == some want) = false := by
            generalize a.tmps.getD t undef = x at hx
            cases x <;> try rfl
            rename_i b
            have hb : b ≠ want := fun e => hx (by rw [e])
            simpa using hb
          rw [hne]
          simp only [Bool.false_eq_true, if_false]
          exact skips1 hmk (hob2.2 _ hleft hx)
  induction fuel with
  | zero =>
    intro listed a w hn hg hS
    have hall : ∀ i, i < ops.length → listed.getD i false = true := by
      intro i hi
      have h0 : listed.toList.filter (· == false) = [] := List.eq_nil_of_length_eq_zero (by omega)
      rw [List.filter_eq_nil_iff] at h0
      have hil : i < listed.size := by rw [hg.lsize]; exact hi
      have := h0 listed[i] (by simp)
      simpa [Array.getD, hil] using this
    refine ⟨?_, hend _ _ _ hg hS hall⟩
    rw [List.eq_nil_iff_forall_not_mem]
    intro i hm
    obtain ⟨o, hi, hnot, _⟩ := ready_mem hm hg.lsize
    rw [hall i (List.getElem?_eq_some_iff.1 hi).1] at hnot
    exact absurd hnot (by simp)
  | succ fuel ih =>
    intro listed a w hn hg hS
    refine ⟨fun hr => hend _ _ _ hg hS (ready_nil hok hr hg.lsize), fun i hm => ?_⟩
    refine step listed a w i _ hg hS hm fun a' w' hg' hS' => ih _ _ _ ?_ hg' hS'
    obtain ⟨o, hi, hnot, _⟩ := ready_mem hm hg.lsize
    have hil : i < listed.toList.length := by rw [Array.length_toList, hg.lsize]; exact (List.getElem?_eq_some_iff.1 hi).1
    have hb : listed.toList[i] = false := by
      have : i < listed.size := by simpa using hil
      simpa [Array.getD, this] using hnot
    rw [Array.toList_setIfInBounds]
    have key : ∀ (l : List Bool) (i : Nat) (h : i < l.length), l[i] = false → ((l.set i true).filter (· == false)).length + 1 = (l.filter (· == false)).length := by
      intro l
      induction l with
      | nil => intro i h; simp at h
      | cons x l ihl =>
        intro i h hx
        cases i with
        | zero => simp at hx; subst hx; simp
        | succ i =>
          have := ihl i (by simpa using h) (by simpa using hx)
          cases x <;> simp only [List.set_cons_succ, List.filter_cons, beq_self_eq_true, if_true, List.length_cons] <;> first | omega | (simp; simpa using this)
    have := key _ i hil hb
    omega

/-- THE LAW. -/
theorem any_marked (L M : World → World → Prop) (F : Nat → Value → World → Prop) (marks : List Nat) (S : Nat → World → Prop) (hok : factsOk ops a0.tmps.size = true)
    (htr : ∀ a b c, M a b → M b c → M a c) (hrf : ∀ a, L a a) (hLM : ∀ a b, L a b → M a b) (hSL : ∀ k a b, L a b → S k a → S k b) (hdr : M w0 w0.drew) (h0 : S 0 w0.drew) (hst : ∀ i v w w', F i v w → M w w' → F i v w') (hob : Obls2 P ops a0 w0 L M F marks S 0 ops)
    (hmarks : ∀ i, i ∈ marks → i < ops.length)
    (hend : ∀ (vals : Nat → Value) w, M w0 w → S marks.length w → (∀ i, i < ops.length → F i (vals i) w) → Q .normal (putAll vals 0 ops a0) w) : wpAny P .any ops.toArray Q ops.toArray.size (Array.replicate ops.toArray.size false) a0 { w0 with drawn := w0.drawn + 1 } := by
  refine facts_any2 (a0 := a0) (w0 := w0) (L := L) (M := M) (F := F) (marks := marks) (S := S) hok htr hrf hLM hSL hst hob ?_ _ _ _ _ ?_ ?_ ?_
  · intro listed a w hg hS hall
    have hval : ∃ vals : Nat → Value, ∀ i o, ops[i]? = some o → F i (vals i) w ∧ (∀ t, o.dst = some t → vals i = a.tmps.getD t undef) := by
      have : ∀ i, ∃ v, ∀ o, ops[i]? = some o → F i v w ∧ (∀ t, o.dst = some t → v = a.tmps.getD t undef) := by
        intro i
        cases hi : ops[i]? with
        | none => exact ⟨undef, fun o h => by simp at h⟩
        | some o =>
          have hl := hg.left i o hi (hall i (List.getElem?_eq_some_iff.1 hi).1)
          unfold Left at hl
          cases hd : o.dst with
          | none => rw [hd] at hl; obtain ⟨v, hv⟩ := hl; exact ⟨v, fun p hp => by cases hp; exact ⟨hv, fun t h => by rw [hd] at h; cases h⟩⟩
          | some t => rw [hd] at hl; exact ⟨_, fun p hp => by cases hp; exact ⟨hl, fun t' h => by rw [hd] at h; cases h; rfl⟩⟩
      exact ⟨fun i => (this i).choose, fun i => (this i).choose_spec⟩
    obtain ⟨vals, hv⟩ := hval
    have e : a = putAll vals 0 ops a0 := by
      have h1 : a.tmps = (putAll vals 0 ops a0).tmps := by
        apply Array.ext_getElem?
        intro t
        have hsz : a.tmps.size = (putAll vals 0 ops a0).tmps.size := by rw [putAll_size, hg.size]
        have hgd : a.tmps.getD t undef = (putAll vals 0 ops a0).tmps.getD t undef := by
          rcases putAll_getD vals t ops 0 a0 (fun o ho d hd => by
            obtain ⟨i, hi⟩ := List.getElem?_of_mem ho
            have hf := factsOk_at hok hi
            simp only [factsOkAt, hd, Bool.and_eq_true, decide_eq_true_eq] at hf
            exact hf.1.1.1.2.2) with ⟨h1, h2⟩ | ⟨i, o, h1, h2, h3⟩
          · rw [h1]; exact hg.old t fun j p hj _ => h2 j p hj
          · rw [h3, Nat.zero_add]; exact ((hv i o h1).2 t h2).symm
        by_cases ht : t < a.tmps.size
        · have ht' : t < (putAll vals 0 ops a0).tmps.size := hsz ▸ ht
          rw [Array.getElem?_eq_getElem ht, Array.getElem?_eq_getElem ht']
          simpa [Array.getD, ht, ht'] using hgd
        · rw [Array.getElem?_eq_none (by omega), Array.getElem?_eq_none (by omega)]
      have h2 : a.defers = (putAll vals 0 ops a0).defers := by rw [putAll_defers, hg.defers]
      cases a
      generalize putAll vals 0 ops a0 = b at *
      cases b
      simp only at h1 h2
      rw [h1, h2]
    rw [e]
    have hfull : stage marks (fun j => listed.getD j false) = marks.length := by
      unfold stage
      rw [List.filter_eq_self.2 (fun i hi => hall i (hmarks i hi))]
    rw [hfull] at hS
    exact hend vals w hg.later hS fun i hi => (hv i ops[i] (by simp [hi])).1
  · simp only [List.size_toArray]
    simp
  · refine ⟨hdr, rfl, rfl, by simp, ?_, ?_, fun _ _ => rfl⟩
    · intro j o hj hl
      simp [Array.getD] at hl
    · intro j o hj hl
      simp [Array.getD] at hl
  · have hz : stage marks (fun j => (Array.replicate ops.toArray.size false).getD j false) = 0 := by
      unfold stage
      rw [List.length_eq_zero_iff, List.filter_eq_nil_iff]
      intro i _
      simp [Array.getD]
    rw [hz]
    exact h0
theorem wp_region_marked {id : Nat} (hm : P.follows .mixedOrders = true) (L M : World → World → Prop) (F : Nat → Value → World → Prop) (marks : List Nat) (S : Nat → World → Prop) (hok : factsOk ops a0.tmps.size = true)
    (htr : ∀ a b c, M a b → M b c → M a c) (hrf : ∀ a, L a a) (hLM : ∀ a b, L a b → M a b) (hSL : ∀ k a b, L a b → S k a → S k b) (hdr : L w0 w0.drew) (h0 : S 0 w0) (hst : ∀ i v w w', F i v w → M w w' → F i v w') (hob : Obls2 P ops a0 w0 L M F marks S 0 ops)
    (hmarks : ∀ i, i ∈ marks → i < ops.length)
    (hend : ∀ (vals : Nat → Value) w, M w0 w → S marks.length w → (∀ i, i < ops.length → F i (vals i) w) → Q .normal (putAll vals 0 ops a0) w) : (Code.region id ops.toArray true).wp P Q a0 w0 :=
  wp_region_any hm (any_marked L M F marks S hok htr hrf hLM hSL (hLM _ _ hdr) (hSL _ _ _ hdr h0) hst hob hmarks hend)
end
end Go.Proofs.Ytpefengjpedifaa
