/-
  A region that draws its order, by facts: what each operation leaves is said of its value and of each world behind it; then the order is all one. No program.
-/
import Derived.Test.YtpefengjpedifaaLib
import Derived.Orders
namespace Go.Proofs.Ytpefengjpedifaa
open Go.RowKit

/-- The operation that writes a slot. -/
def writer (ops : List Oper) (t : Tmp) : Option Nat := ops.findIdx? (fun o => o.dst == some t)
/-- Does operation o wait for operation j? -/
def waitsFor (o : Oper) (j : Nat) : Bool := o.after.toList.any (fun e => Region.binds .any e && e.on == j)
def opTmps (o : Oper) : List Tmp := o.op.operands.toList.filterMap fun | .tmp t => some t | _ => none
def isSelect (o : Oper) : Bool := match o.op with | .select _ _ => true | _ => false

/-- What must be so of the text: each slot is written once; who reads a slot waits for its writer, or is waited for; nobody waits for a later one. -/
def factsOkAt (ops : List Oper) (n : Nat) (i : Nat) (o : Oper) : Bool :=
  !isSelect o &&
  (match o.dst with | none => true | some t => writer ops t == some i && decide (t < n)) &&
  (o.after.toList.all fun e => !Region.binds .any e || decide (e.on < i)) &&
  ((opTmps o).all fun t => match writer ops t with
    | none => true
    | some j => waitsFor o j || (match ops[j]? with | some oj => waitsFor oj i | none => false)) &&
  (match o.guard with | none => true | some (g, _) => waitsFor o g && (match ops[g]? with | some og => og.dst.isSome | none => false))
def factsOkFrom (ops : List Oper) (n : Nat) : Nat → List Oper → Bool
  | _, [] => true
  | i, o :: rest => factsOkAt ops n i o && factsOkFrom ops n (i + 1) rest
def factsOk (ops : List Oper) (n : Nat) : Bool := factsOkFrom ops n 0 ops

theorem factsOkFrom_at (ops : List Oper) (n : Nat) : ∀ (l : List Oper) (k : Nat), factsOkFrom ops n k l = true → ∀ i o, l[i]? = some o → factsOkAt ops n (k + i) o = true := by
  intro l
  induction l with
  | nil => intro k _ i o h; simp at h
  | cons x l ih =>
    intro k h i o hi
    simp only [factsOkFrom, Bool.and_eq_true] at h
    cases i with
    | zero => simp at hi; subst hi; exact h.1
    | succ i =>
      have := ih (k + 1) h.2 i o (by simpa using hi)
      rwa [Nat.add_assoc, Nat.add_comm 1 i] at this
theorem factsOk_at {ops : List Oper} {n : Nat} (h : factsOk ops n = true) {i : Nat} {o : Oper} (hi : ops[i]? = some o) : factsOkAt ops n i o = true := by
  have := factsOkFrom_at ops n ops 0 h i o hi
  rwa [Nat.zero_add] at this

/-- An operation's run, by what its operands are. -/
def Yield (P : Program) (o : Oper) (ev : Operand → Value) (w : World) (R : Value → World → Prop) : Prop :=
  match (execOp ev o).run P w with
  | .ok (.value v) w' => R v w'
  | .ok .skip w' => R undef w'
  | .ok (.enter f args) w' => Calls P f args w' fun
      | .returned v, w'' => R v w''
      | _, _ => False
  | _ => False

theorem Yield.wp {P : Program} {o : Oper} {a : Act} {w : World} {R : Value → World → Prop} {K : Act → World → Prop} {Q : Exit → Act → World → Prop} (h : Yield P o a.eval w R)
    (hk : ∀ v w', R v w' → K (a.put o.dst v) w') : o.wp P a w K Q := by
  unfold Oper.wp
  unfold Yield at h
  generalize (execOp a.eval o).run P w = r at *
  cases r with
  | ok x w' =>
    cases x <;> simp only [Oper.upon] at h ⊢ <;> first
      | exact hk _ _ h
      | exact h.elim
      | exact Calls.mono h (fun e w'' he => by cases e <;> first | exact hk _ _ he | exact he.elim)
  | halt x w' => exact h.elim

/-- The operand as the walk gives it. -/
structure Plain (ev : Operand → Value) : Prop where
  const : ∀ v, ev (.const v) = v
  func : ∀ f, ev (.func f) = .func (.func f) #[] #[]
  global : ∀ g, ev (.global g) = .pointer (some ⟨g, 0, none⟩)

/-! What one operation does, by its kind. -/
section
variable {P : Program} {o : Oper} {ev : Operand → Value} {w : World} {R : Value → World → Prop}
theorem Yield.mv {x : Operand} (ho : o.op = .move x) (h : R (ev x) w) : Yield P o ev w R := by
  unfold Yield execOp; simp only [ho]; exact h
theorem Yield.as {x : Operand} (ho : o.op = .assign x) (h : R (ev x) w) : Yield P o ev w R := by
  unfold Yield execOp; simp only [ho]; exact h
theorem Yield.pick {c a b : Operand} {t : Bool} (ho : o.op = .pick c a b) (hc : ev c = .bool t) (h : R (if t then ev a else ev b) w) : Yield P o ev w R := by
  unfold Yield execOp
  simp only [ho, hc]
  cases t <;> exact h
theorem Yield.op {v : Value} {w' : World} (hr : (execOp ev o).run P w = .ok (.value v) w') (h : R v w') : Yield P o ev w R := by
  unfold Yield; rw [hr]; exact h
theorem Yield.skip {w' : World} (hr : (execOp ev o).run P w = .ok .skip w') (h : R undef w') : Yield P o ev w R := by
  unfold Yield; rw [hr]; exact h
theorem Yield.conv {s d : TypeId} {x : Operand} {u v : Value} {w' : World} (ho : o.op = .convert s d x) (hx : ev x = u) (hr : (convert s d u).run P w = .ok v w') (h : R v w') : Yield P o ev w R := by
  unfold Yield execOp
  simp only [ho, hx, Sem.run_bind, hr, Result.andThen_ok, Sem.run_pure]
  exact h
theorem Yield.slice {t : TypeId} {x : Operand} {lo hi mx : Option Operand} {u v : Value} {w' : World} (ho : o.op = .slice t x lo hi mx) (hx : ev x = u) (hr : (Instr.sliceAt t u (lo.map ev) (hi.map ev) (mx.map ev)).run P w = .ok v w') (h : R v w') : Yield P o ev w R := by
  unfold Yield execOp
  simp only [ho, hx, Sem.run_bind, hr, Result.andThen_ok, Sem.run_pure]
  exact h
theorem Yield.bin {b : BinOp} {t u : TypeId} {x y : Operand} {v : Value} {w' : World} (ho : o.op = .binOp b t x y u) (hr : (do eqGuard b t x y (ev x) (ev y); binOp b t (ev x) (ev y)).run P w = .ok v w') (h : R v w') : Yield P o ev w R := by
  unfold Yield execOp
  simp only [ho]
  rw [Sem.run_bind, hr]
  exact h
theorem Yield.call {F : FuncId} {xs : Array Operand} {ats : Array TypeId} {fn : Func} {c : Code} (ho : o.op = .call { callee := .value (.func F), args := xs, argTypes := ats }) (hp : Plain ev) (hf : P.funcs[F]? = some fn) (hb : fn.body = some c)
    (hn : (fn.name == "runtime.NumGoroutine") = false) (h : Calls P F (xs.map ev) w (fun e w' => ∃ v, e = .returned v ∧ R v w')) : Yield P o ev w R := by
  unfold Yield execOp
  have hr : (do let d ← resolve ev { callee := .value (.func F), args := xs, argTypes := ats } o.type; invoke d.target d.args).run P w = .ok (.enter F (xs.map ev)) w := by
    simp only [resolve, hp.func, Deferred.ofValue, Sem.run_bind, Sem.run_pure, Result.andThen_ok, invoke]
    have hn' : ¬ fn.name = "runtime.NumGoroutine" := by simpa using hn
    simp [callFunc, hf, hn', hb]
  simp only [ho]
  rw [hr]
  exact h.mono fun e w' he => by obtain ⟨v, rfl, hv⟩ := he; exact hv
end

/-- What is known of an operand's slot. -/
def Known (ops : List Oper) (a0 : Act) (F : Nat → Value → World → Prop) (o : Oper) (t : Tmp) (x : Value) (w : World) : Prop :=
  match writer ops t with
  | none => x = a0.tmps.getD t undef
  | some j => if waitsFor o j = true then F j x w else x = a0.tmps.getD t undef


/-- What is to be shown of one operation. -/
def Obl (P : Program) (ops : List Oper) (a0 : Act) (w0 : World) (L : World → World → Prop) (F : Nat → Value → World → Prop) (i : Nat) (o : Oper) : Prop :=
  ∀ (ev : Operand → Value) (w : World), Plain ev → L w0 w → (∀ t, t ∈ opTmps o → Known ops a0 F o t (ev (.tmp t)) w) → (∀ j, waitsFor o j = true → ∃ v, F j v w) →
    match o.guard with
    | none => Yield P o ev w (fun v w' => L w w' ∧ F i v w')
    | some (g, want) => (∀ x, F g x w → x = .bool want → Yield P o ev w (fun v w' => L w w' ∧ F i v w')) ∧ (∀ x, F g x w → x ≠ .bool want → F i undef w)

def Obls (P : Program) (ops : List Oper) (a0 : Act) (w0 : World) (L : World → World → Prop) (F : Nat → Value → World → Prop) : Nat → List Oper → Prop
  | _, [] => True
  | k, o :: rest => Obl P ops a0 w0 L F k o ∧ Obls P ops a0 w0 L F (k + 1) rest

theorem Obls.at {P : Program} {ops : List Oper} {a0 : Act} {w0 : World} {L : World → World → Prop} {F : Nat → Value → World → Prop} : ∀ (l : List Oper) (k : Nat), Obls P ops a0 w0 L F k l → ∀ i o, l[i]? = some o → Obl P ops a0 w0 L F (k + i) o := by
  intro l
  induction l with
  | nil => intro k _ i o h; simp at h
  | cons x l ih =>
    intro k h i o hi
    cases i with
    | zero => simp at hi; subst hi; exact h.1
    | succ i =>
      have := ih (k + 1) h.2 i o (by simpa using hi)
      rwa [Nat.add_assoc, Nat.add_comm 1 i] at this

theorem Obls.cons {P : Program} {ops : List Oper} {a0 : Act} {w0 : World} {L : World → World → Prop} {F : Nat → Value → World → Prop} {k : Nat} {o : Oper} {rest : List Oper} (h : Obl P ops a0 w0 L F k o) (hr : Obls P ops a0 w0 L F (k + 1) rest) : Obls P ops a0 w0 L F k (o :: rest) := ⟨h, hr⟩
theorem Obls.nil {P : Program} {ops : List Oper} {a0 : Act} {w0 : World} {L : World → World → Prop} {F : Nat → Value → World → Prop} {k : Nat} : Obls P ops a0 w0 L F k [] := trivial

/-- All operations' values in their slots. -/
def putAll (vals : Nat → Value) : Nat → List Oper → Act → Act
  | _, [], a => a
  | k, o :: rest, a => putAll vals (k + 1) rest (a.put o.dst (vals k))

/-- What an operation has left. -/
def Left (F : Nat → Value → World → Prop) (j : Nat) (o : Oper) (a : Act) (w : World) : Prop :=
  match o.dst with
  | some t => F j (a.tmps.getD t undef) w
  | none => ∃ v, F j v w

structure Good (ops : List Oper) (a0 : Act) (w0 : World) (L : World → World → Prop) (F : Nat → Value → World → Prop) (listed : Array Bool) (a : Act) (w : World) : Prop where
  later : L w0 w
  defers : a.defers = a0.defers
  size : a.tmps.size = a0.tmps.size
  lsize : listed.size = ops.length
  closed : ∀ j o, ops[j]? = some o → listed.getD j false = true → ∀ i, waitsFor o i = true → listed.getD i false = true
  left : ∀ j o, ops[j]? = some o → listed.getD j false = true → Left F j o a w
  old : ∀ t, (∀ j o, ops[j]? = some o → listed.getD j false = true → o.dst ≠ some t) → a.tmps.getD t undef = a0.tmps.getD t undef

theorem getD_set (l : Array Bool) (i j : Nat) (hi : i < l.size) : (l.setIfInBounds i true).getD j false = (if i = j then true else l.getD j false) := by
  by_cases h : i = j
  · subst h; simp [Array.getD, hi]
  · simp only [h, if_false, Array.getD_eq_getD_getElem?]
    rw [Array.getElem?_setIfInBounds_ne h]

theorem put_getD (a : Act) (d t : Tmp) (v : Value) (hd : d < a.tmps.size) : (a.put (some d) v).tmps.getD t undef = if d = t then v else a.tmps.getD t undef := by
  simp only [Act.put]
  by_cases h : d = t
  · subst h; simp [Array.getD, hd]
  · simp only [h, if_false, Array.getD_eq_getD_getElem?]
    rw [Array.getElem?_setIfInBounds_ne h]

theorem put_size (a : Act) (d : Option Tmp) (v : Value) : (a.put d v).tmps.size = a.tmps.size := by
  cases d <;> simp [Act.put]
theorem put_defers (a : Act) (d : Option Tmp) (v : Value) : (a.put d v).defers = a.defers := by
  cases d <;> simp [Act.put]

theorem writer_spec {ops : List Oper} {t : Tmp} {i : Nat} (h : writer ops t = some i) : ∃ o, ops[i]? = some o ∧ o.dst = some t := by
  unfold writer at h
  obtain ⟨hi, hp, _⟩ := List.findIdx?_eq_some_iff_getElem.1 h
  exact ⟨ops[i], by simp [hi], by simpa using hp⟩
theorem writer_none {ops : List Oper} {t : Tmp} (h : writer ops t = none) : ∀ (i : Nat) (o : Oper), ops[i]? = some o → o.dst ≠ some t := by
  intro i o hi hd
  unfold writer at h
  rw [List.findIdx?_eq_none_iff] at h
  have := h o (List.mem_of_getElem? hi)
  simp [hd] at this

/-- Two operations never write one slot. -/
theorem dst_inj {ops : List Oper} {n : Nat} (h : factsOk ops n = true) {i j : Nat} {o p : Oper} {t : Tmp} (hi : ops[i]? = some o) (hj : ops[j]? = some p) (h1 : o.dst = some t) (h2 : p.dst = some t) : i = j := by
  have a := factsOk_at h hi
  have b := factsOk_at h hj
  simp only [factsOkAt, h1, h2, Bool.and_eq_true, beq_iff_eq] at a b
  have e1 := a.1.1.1.2.1
  have e2 := b.1.1.1.2.1
  rw [e1] at e2
  exact Option.some.inj e2

section
variable {P : Program} {ops : List Oper} {a0 : Act} {w0 : World} {L : World → World → Prop} {F : Nat → Value → World → Prop} {Q : Exit → Act → World → Prop}

theorem Good.put {listed : Array Bool} {a : Act} {w w' : World} {i : Nat} {o : Oper} {v : Value} (hg : Good ops a0 w0 L F listed a w) (hok : factsOk ops a0.tmps.size = true)
    (htr : ∀ a b c, L a b → L b c → L a c) (hst : ∀ i v w w', F i v w → L w w' → F i v w') (hi : ops[i]? = some o) (hready : ∀ j, waitsFor o j = true → listed.getD j false = true)
    (hl : L w w') (hv : F i v w') : Good ops a0 w0 L F (listed.setIfInBounds i true) (a.put o.dst v) w' := by
  have hlt : i < listed.size := by rw [hg.lsize]; exact (List.getElem?_eq_some_iff.1 hi).1
  have hf := factsOk_at hok hi
  refine ⟨htr _ _ _ hg.later hl, by rw [put_defers, hg.defers], by rw [put_size, hg.size], by simp [hg.lsize], ?_, ?_, ?_⟩
  · intro j p hj hlj k hk
    rw [getD_set _ _ _ hlt] at hlj ⊢
    split
    · rfl
    · by_cases e : i = j
      · subst e; rw [hi] at hj; cases hj; exact hready k hk
      · rw [if_neg e] at hlj; exact hg.closed j p hj hlj k hk
  · intro j p hj hlj
    rw [getD_set _ _ _ hlt] at hlj
    by_cases e : i = j
    · subst e
      rw [hi] at hj; cases hj
      unfold Left
      cases hd : o.dst with
      | none => exact ⟨v, hv⟩
      | some t =>
        simp only [factsOkAt, hd, Bool.and_eq_true, decide_eq_true_eq] at hf
        have ht : t < a.tmps.size := by rw [hg.size]; exact hf.1.1.1.2.2
        show F i ((a.put (some t) v).tmps.getD t undef) w'
        rw [put_getD a t t v ht, if_pos rfl]; exact hv
    · rw [if_neg e] at hlj
      have hp := hg.left j p hj hlj
      unfold Left at hp ⊢
      cases hd : p.dst with
      | none => rw [hd] at hp; obtain ⟨u, hu⟩ := hp; exact ⟨u, hst _ _ _ _ hu hl⟩
      | some t =>
        rw [hd] at hp
        have hne : o.dst ≠ some t := fun h => e (dst_inj hok hi hj h hd)
        have : (a.put o.dst v).tmps.getD t undef = a.tmps.getD t undef := by
          cases ho : o.dst with
          | none => rfl
          | some d =>
            simp only [factsOkAt, ho, Bool.and_eq_true, decide_eq_true_eq] at hf
            have hds : d < a.tmps.size := by rw [hg.size]; exact hf.1.1.1.2.2
            rw [put_getD a d t v hds, if_neg (fun h => hne (by rw [ho, h]))]
        show F j ((a.put o.dst v).tmps.getD t undef) w'
        rw [this]; exact hst _ _ _ _ hp hl
  · intro t ht
    have h1 : o.dst ≠ some t := ht i o hi (by rw [getD_set _ _ _ hlt, if_pos rfl])
    have h2 : (a.put o.dst v).tmps.getD t undef = a.tmps.getD t undef := by
      cases ho : o.dst with
      | none => rfl
      | some d =>
        simp only [factsOkAt, ho, Bool.and_eq_true, decide_eq_true_eq] at hf
        have hds : d < a.tmps.size := by rw [hg.size]; exact hf.1.1.1.2.2
        rw [put_getD a d t v hds, if_neg (fun h => h1 (by rw [ho, h]))]
    rw [h2]
    refine hg.old t fun j p hj hlj => ht j p hj ?_
    rw [getD_set _ _ _ hlt]; split
    · rfl
    · exact hlj

theorem Good.known {listed : Array Bool} {a : Act} {w : World} {i : Nat} {o : Oper} (hg : Good ops a0 w0 L F listed a w) (hok : factsOk ops a0.tmps.size = true) (hi : ops[i]? = some o)
    (hnot : listed.getD i false = false) (hready : ∀ j, waitsFor o j = true → listed.getD j false = true) : ∀ t, t ∈ opTmps o → Known ops a0 F o t (a.eval (.tmp t)) w := by
  intro t ht
  have hf := factsOk_at hok hi
  simp only [factsOkAt, Bool.and_eq_true, List.all_eq_true] at hf
  have hft := hf.1.2 t ht
  unfold Known
  show match writer ops t with | none => a.tmps.getD t undef = a0.tmps.getD t undef | some j => if waitsFor o j = true then F j (a.tmps.getD t undef) w else a.tmps.getD t undef = a0.tmps.getD t undef
  cases hw : writer ops t with
  | none => exact hg.old t fun j p hj _ => writer_none hw j p hj
  | some j =>
    obtain ⟨p, hj, hd⟩ := writer_spec hw
    rw [hw] at hft
    simp only []
    split
    · rename_i hwt
      have := hg.left j p hj (hready j hwt)
      unfold Left at this
      rwa [hd] at this
    · rename_i hwt
      refine hg.old t fun k q hk hlk hdk => ?_
      have e := dst_inj hok hj hk hd hdk
      subst e
      rw [hj] at hk; cases hk
      simp only [hwt, Bool.false_or, hj] at hft
      have := hg.closed j p hj hlk i hft
      rw [hnot] at this
      exact absurd this (by simp)

theorem opTmps_mem {o : Oper} {t : Tmp} (h : Operand.tmp t ∈ o.op.operands) : t ∈ opTmps o := by
  unfold opTmps
  rw [List.mem_filterMap]
  exact ⟨.tmp t, by simpa using h, rfl⟩

theorem ready_mem {listed : Array Bool} {i : Nat} (h : i ∈ Region.ready .any ops.toArray listed) (hl : listed.size = ops.length) :
    ∃ o, ops[i]? = some o ∧ listed.getD i false = false ∧ ∀ j, waitsFor o j = true → listed.getD j false = true := by
  unfold Region.ready at h
  rw [List.mem_filter] at h
  obtain ⟨hr, hc⟩ := h
  have hi : i < ops.length := by simpa using hr
  refine ⟨ops[i], by simp [hi], ?_, ?_⟩
  · simp only [Bool.and_eq_true, Bool.not_eq_true'] at hc
    have := hc.1
    simpa [Array.getD, hl, hi] using this
  · intro j hj
    simp only [Bool.and_eq_true] at hc
    have h2 := hc.2
    rw [show ops.toArray[i]? = some ops[i] from by simp [hi]] at h2
    simp only [Option.map_some, Option.getD_some, ← Array.all_toList, List.all_eq_true] at h2
    unfold waitsFor at hj
    rw [List.any_eq_true] at hj
    obtain ⟨e, he, h3⟩ := hj
    simp only [Bool.and_eq_true, beq_iff_eq] at h3
    have h4 := h2 e he
    rw [h3.1] at h4
    rw [← h3.2]
    simpa using h4

theorem ready_nil {listed : Array Bool} (hok : factsOk ops a0.tmps.size = true) (h : Region.ready .any ops.toArray listed = []) (hl : listed.size = ops.length) :
    ∀ i, i < ops.length → listed.getD i false = true := by
  intro i
  induction i using Nat.strongRecOn with
  | _ i ih =>
    intro hi
    cases hb : listed.getD i false with
    | true => rfl
    | false =>
      exfalso
      have hm : i ∈ Region.ready .any ops.toArray listed := by
        unfold Region.ready
        rw [List.mem_filter]
        refine ⟨by simpa using hi, ?_⟩
        have hf := factsOk_at hok (i := i) (o := ops[i]) (by simp [hi])
        simp only [factsOkAt, Bool.and_eq_true] at hf
        have hfa := hf.1.1.2
        rw [List.all_eq_true] at hfa
        simp only [Bool.and_eq_true, Bool.not_eq_true']
        constructor
        · simpa [Array.getD, hl, hi] using hb
        · rw [show ops.toArray[i]? = some ops[i] from by simp [hi]]
          simp only [Option.map_some, Option.getD_some, ← Array.all_toList, List.all_eq_true]
          intro e he
          have := hfa e he
          cases hbe : Region.binds .any e with
          | false => rfl
          | true =>
            rw [hbe] at this
            have h5 : e.on < i := by simpa using this
            have := ih e.on h5 (by omega)
            simpa using this
      rw [h] at hm
      cases hm

theorem facts_any (hok : factsOk ops a0.tmps.size = true) (htr : ∀ a b c, L a b → L b c → L a c) (hrf : ∀ a, L a a) (hst : ∀ i v w w', F i v w → L w w' → F i v w') (hob : Obls P ops a0 w0 L F 0 ops)
    (hend : ∀ listed a w, Good ops a0 w0 L F listed a w → (∀ i, i < ops.length → listed.getD i false = true) → Q .normal a w) :
    ∀ (fuel : Nat) (listed : Array Bool) (a : Act) (w : World), (listed.toList.filter (· == false)).length ≤ fuel → Good ops a0 w0 L F listed a w → wpAny P .any ops.toArray Q fuel listed a w := by
  intro fuel
  have step : ∀ (listed : Array Bool) (a : Act) (w : World) (i : Nat) (K : Act → World → Prop), Good ops a0 w0 L F listed a w → i ∈ Region.ready .any ops.toArray listed →
      (∀ a' w', Good ops a0 w0 L F (listed.setIfInBounds i true) a' w' → K a' w') → wpOp P ops.toArray Q i K a w := by
    intro listed a w i K hg hm hK
    obtain ⟨o, hi, hnot, hready⟩ := ready_mem hm hg.lsize
    have hob1 := Obls.at ops 0 hob i o hi
    rw [Nat.zero_add] at hob1
    have hf := factsOk_at hok hi
    have hpl : Plain a.eval := ⟨fun _ => rfl, fun _ => rfl, fun _ => rfl⟩
    have hdep : ∀ j, waitsFor o j = true → ∃ v, F j v w := by
      intro j hj
      have hlj := hready j hj
      have hjl : j < ops.length := by
        rcases Nat.lt_or_ge j ops.length with h | h
        · exact h
        · simp [Array.getD, hg.lsize, Nat.not_lt.2 h] at hlj
      have := hg.left j ops[j] (by simp [hjl]) hlj
      unfold Left at this
      cases hd : ops[j].dst with
      | none => rw [hd] at this; exact this
      | some t => rw [hd] at this; exact ⟨_, this⟩
    have hob2 := hob1 a.eval w hpl hg.later (hg.known hok hi hnot hready) hdep
    have yields : Yield P o a.eval w (fun v w' => L w w' ∧ F i v w') → o.wp P a w K Q := fun hy =>
      hy.wp fun v w' hh => hK _ _ (hg.put hok htr hst hi hready hh.1 hh.2)
    have skips : F i undef w → K (a.put o.dst undef) w := fun hu => hK _ _ (hg.put hok htr hst hi hready (hrf _) hu)
    unfold wpOp
    rw [show ops.toArray[i]? = some o from by simpa using hi]
    simp only []
    cases hgd : o.guard with
    | none =>
      rw [hgd] at hob2
      have : Region.wanted o (yielded ops.toArray a.tmps) = true := by simp [Region.wanted, hgd]
      rw [if_pos this]
      exact .inl (yields hob2)
    | some gw =>
      obtain ⟨g, want⟩ := gw
      rw [hgd] at hob2
      simp only [factsOkAt, hgd, Bool.and_eq_true] at hf
      have hwg := hf.2.1
      have hlg := hready g hwg
      have hgl : g < ops.length := by
        rcases Nat.lt_or_ge g ops.length with h | h
        · exact h
        · simp [Array.getD, hg.lsize, Nat.not_lt.2 h] at hlg
      have hog : ops[g]? = some ops[g] := by simp [hgl]
      have hds := hf.2.2
      rw [hog] at hds
      simp only [] at hds
      obtain ⟨t, ht⟩ := Option.isSome_iff_exists.1 hds
      have hleft := hg.left g ops[g] hog hlg
      unfold Left at hleft
      rw [ht] at hleft
      simp only [] at hleft
      have hy : yielded ops.toArray a.tmps g = match a.tmps.getD t undef with | .bool b => some b | _ => none := by
        unfold yielded
        have : ((ops.toArray[g]?).bind (·.dst)) = some t := by simp [hgl, ht]
        rw [this]
        simp only [Option.bind_some, Array.getD_eq_getD_getElem?]
        cases hx : a.tmps[t]? with
        | none => rfl
        | some x => cases x <;> rfl
      have hw : Region.wanted o (yielded ops.toArray a.tmps) = (yielded ops.toArray a.tmps g == some want) := by simp [Region.wanted, hgd]
      rw [hw, hy]
      by_cases hx : a.tmps.getD t undef = .bool want
      · rw [hx]
        simp only [beq_self_eq_true, if_true]
        exact .inl (yields (hob2.1 _ hleft hx))
      · have hne : ((match a.tmps.getD t undef with | .bool b => some b | _ => none) == some want) = false := by
          generalize a.tmps.getD t undef = x at hx
          cases x <;> try rfl
          rename_i b
          have hb : b ≠ want := fun e => hx (by rw [e])
          simpa using hb
        rw [hne]
        simp only [Bool.false_eq_true, if_false]
        exact skips (hob2.2 _ hleft hx)
  induction fuel with
  | zero =>
    intro listed a w hn hg
    have hall : ∀ i, i < ops.length → listed.getD i false = true := by
      intro i hi
      have h0 : listed.toList.filter (· == false) = [] := List.eq_nil_of_length_eq_zero (by omega)
      rw [List.filter_eq_nil_iff] at h0
      have hil : i < listed.size := by rw [hg.lsize]; exact hi
      have := h0 listed[i] (by simp)
      simpa [Array.getD, hil] using this
    refine ⟨?_, hend _ _ _ hg hall⟩
    rw [List.eq_nil_iff_forall_not_mem]
    intro i hm
    obtain ⟨o, hi, hnot, _⟩ := ready_mem hm hg.lsize
    rw [hall i (List.getElem?_eq_some_iff.1 hi).1] at hnot
    exact absurd hnot (by simp)
  | succ fuel ih =>
    intro listed a w hn hg
    refine ⟨fun hr => hend _ _ _ hg (ready_nil hok hr hg.lsize), fun i hm => ?_⟩
    refine step listed a w i _ hg hm fun a' w' hg' => ih _ _ _ ?_ hg'
    obtain ⟨o, hi, hnot, _⟩ := ready_mem hm hg.lsize
    have hil : i < listed.toList.length := by rw [Array.length_toList, hg.lsize]; exact (List.getElem?_eq_some_iff.1 hi).1
    have hb : listed.toList[i] = false := by
      have : i < listed.size := by simpa using hil
      simpa [Array.getD, this] using hnot
    rw [Array.toList_setIfInBounds]
    have key : ∀ (l : List Bool) (i : Nat) (h : i < l.length), l[i] = false → ((l.set i true).filter (· == false)).length + 1 = (l.filter (· == false)).length := by
      intro l
      induction l with
      | nil => intro i h; simp at h
      | cons x l ihl =>
        intro i h hx
        cases i with
        | zero => simp at hx; subst hx; simp
        | succ i =>
          have := ihl i (by simpa using h) (by simpa using hx)
          cases x <;> simp only [List.set_cons_succ, List.filter_cons, beq_self_eq_true, if_true, List.length_cons] <;> first | omega | (simp; simpa using this)
    have := key _ i hil hb
    omega

theorem putAll_size (vals : Nat → Value) : ∀ (l : List Oper) (k : Nat) (a : Act), (putAll vals k l a).tmps.size = a.tmps.size := by
  intro l
  induction l with
  | nil => intro k a; rfl
  | cons o l ih => intro k a; show (putAll vals (k + 1) l (a.put o.dst (vals k))).tmps.size = _; rw [ih, put_size]
theorem putAll_defers (vals : Nat → Value) : ∀ (l : List Oper) (k : Nat) (a : Act), (putAll vals k l a).defers = a.defers := by
  intro l
  induction l with
  | nil => intro k a; rfl
  | cons o l ih => intro k a; show (putAll vals (k + 1) l (a.put o.dst (vals k))).defers = _; rw [ih, put_defers]
theorem putAll_getD (vals : Nat → Value) (t : Tmp) : ∀ (l : List Oper) (k : Nat) (a : Act), (∀ o : Oper, o ∈ l → ∀ d, o.dst = some d → d < a.tmps.size) →
    (putAll vals k l a).tmps.getD t undef = a.tmps.getD t undef ∧ (∀ (i : Nat) (o : Oper), l[i]? = some o → o.dst ≠ some t) ∨ ∃ (i : Nat) (o : Oper), l[i]? = some o ∧ o.dst = some t ∧ (putAll vals k l a).tmps.getD t undef = vals (k + i) := by
  intro l
  induction l with
  | nil => intro k a _; exact .inl ⟨rfl, fun i o h => by simp at h⟩
  | cons o l ih =>
    intro k a hd
    show (putAll vals (k + 1) l (a.put o.dst (vals k))).tmps.getD t undef = _ ∧ _ ∨ ∃ i p, _ ∧ _ ∧ (putAll vals (k + 1) l (a.put o.dst (vals k))).tmps.getD t undef = _
    rcases ih (k + 1) (a.put o.dst (vals k)) (fun p hp d h => by rw [put_size]; exact hd p (by simp [hp]) d h) with ⟨h1, h2⟩ | ⟨i, p, h1, h2, h3⟩
    · cases ho : o.dst with
      | none =>
        refine .inl ⟨by rw [ho] at h1; exact h1, fun i p hi => ?_⟩
        cases i with
        | zero => simp at hi; subst hi; rw [ho]; simp
        | succ i => exact h2 i p (by simpa using hi)
      | some d =>
        have hds : d < a.tmps.size := hd o (by simp) d ho
        by_cases e : d = t
        · subst e
          refine .inr ⟨0, o, by simp, ho, ?_⟩
          rw [ho] at h1
          rw [h1, put_getD _ _ _ _ hds, if_pos rfl, Nat.add_zero]
        · refine .inl ⟨?_, fun i p hi => ?_⟩
          · rw [ho] at h1
            rw [h1, put_getD _ _ _ _ hds, if_neg e]
          · cases i with
            | zero => simp at hi; subst hi; rw [ho]; simpa using e
            | succ i => exact h2 i p (by simpa using hi)
    · exact .inr ⟨i + 1, p, by simpa using h1, h2, by rw [h3]; congr 1; omega⟩

/-- THE LAW. -/
theorem wp_region_facts {id : Nat} (hm : P.follows .mixedOrders = true) (L : World → World → Prop) (F : Nat → Value → World → Prop) (hok : factsOk ops a0.tmps.size = true)
    (htr : ∀ a b c, L a b → L b c → L a c) (hrf : ∀ a, L a a) (hdr : L w0 w0.drew) (hst : ∀ i v w w', F i v w → L w w' → F i v w') (hob : Obls P ops a0 w0 L F 0 ops)
    (hend : ∀ (vals : Nat → Value) w, L w0 w → (∀ i, i < ops.length → F i (vals i) w) → Q .normal (putAll vals 0 ops a0) w) : (Code.region id ops.toArray true).wp P Q a0 w0 := by
  refine wp_region_any hm ?_
  refine facts_any (a0 := a0) (w0 := w0) (L := L) (F := F) hok htr hrf hst hob ?_ _ _ _ _ ?_ ?_
  · intro listed a w hg hall
    have hval : ∃ vals : Nat → Value, ∀ i o, ops[i]? = some o → F i (vals i) w ∧ (∀ t, o.dst = some t → vals i = a.tmps.getD t undef) := by
      have : ∀ i, ∃ v, ∀ o, ops[i]? = some o → F i v w ∧ (∀ t, o.dst = some t → v = a.tmps.getD t undef) := by
        intro i
        cases hi : ops[i]? with
        | none => exact ⟨undef, fun o h => by simp at h⟩
        | some o =>
          have hl := hg.left i o hi (hall i (List.getElem?_eq_some_iff.1 hi).1)
          unfold Left at hl
          cases hd : o.dst with
          | none => rw [hd] at hl; obtain ⟨v, hv⟩ := hl; exact ⟨v, fun p hp => by cases hp; exact ⟨hv, fun t h => by rw [hd] at h; cases h⟩⟩
          | some t => rw [hd] at hl; exact ⟨_, fun p hp => by cases hp; exact ⟨hl, fun t' h => by rw [hd] at h; cases h; rfl⟩⟩
      exact ⟨fun i => (this i).choose, fun i => (this i).choose_spec⟩
    obtain ⟨vals, hv⟩ := hval
    have e : a = putAll vals 0 ops a0 := by
      have h1 : a.tmps = (putAll vals 0 ops a0).tmps := by
        apply Array.ext_getElem?
        intro t
        have hsz : a.tmps.size = (putAll vals 0 ops a0).tmps.size := by rw [putAll_size, hg.size]
        have hgd : a.tmps.getD t undef = (putAll vals 0 ops a0).tmps.getD t undef := by
          rcases putAll_getD vals t ops 0 a0 (fun o ho d hd => by
            obtain ⟨i, hi⟩ := List.getElem?_of_mem ho
            have hf := factsOk_at hok hi
            simp only [factsOkAt, hd, Bool.and_eq_true, decide_eq_true_eq] at hf
            exact hf.1.1.1.2.2) with ⟨h1, h2⟩ | ⟨i, o, h1, h2, h3⟩
          · rw [h1]; exact hg.old t fun j p hj _ => h2 j p hj
          · rw [h3, Nat.zero_add]; exact ((hv i o h1).2 t h2).symm
        by_cases ht : t < a.tmps.size
        · have ht' : t < (putAll vals 0 ops a0).tmps.size := hsz ▸ ht
          rw [Array.getElem?_eq_getElem ht, Array.getElem?_eq_getElem ht']
          simpa [Array.getD, ht, ht'] using hgd
        · rw [Array.getElem?_eq_none (by omega), Array.getElem?_eq_none (by omega)]
      have h2 : a.defers = (putAll vals 0 ops a0).defers := by rw [putAll_defers, hg.defers]
      cases a
      generalize putAll vals 0 ops a0 = b at *
      cases b
      simp only at h1 h2
      rw [h1, h2]
    rw [e]
    exact hend vals w hg.later fun i hi => (hv i ops[i] (by simp [hi])).1
  · simp only [List.size_toArray]
    simp
  · refine ⟨hdr, rfl, rfl, by simp, ?_, ?_, fun _ _ => rfl⟩
    · intro j o hj hl
      simp [Array.getD] at hl
    · intro j o hj hl
      simp [Array.getD] at hl
end
end Go.Proofs.Ytpefengjpedifaa
