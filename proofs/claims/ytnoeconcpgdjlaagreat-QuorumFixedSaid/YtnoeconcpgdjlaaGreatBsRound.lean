import Derived.RangeFuncNested
import Derived.RangeFuncBound
import Derived.RangeFuncCalls
import Derived.RangeFuncLeaves
import Derived.Shelf.Abstract
import Derived.OwnWalkIn
import Derived.TacticsInMore
import Derived.LoopNIn
import Derived.LoopIn
import Derived.OrdersIn
import Derived.Test.YtnoeconcpgdjlaaGreatBsLib
namespace Go.Proofs.YtnoeconcpgdjlaaGreat
set_option linter.unusedSimpArgs false
set_option linter.unusedVariables false
open Go.RowKit Go.Shelf
section
variable {P : Program} {l n : Nat} {Q : Exit -> Act -> World -> Prop}
theorem zl0 {o : Oper} {a : Act} {w : World} {K : Act -> World -> Prop} (hd : ∀ c, o.op ≠ .defer c) (h : o.wp P a w K Q) : o.wpIn (Fence.wide.inRound l) n P a w K Q := by
 refine ⟨fun _ _ => trivial, ?_⟩
 unfold Oper.wp at h
 rw [show (Fence.wide.inRound l).round = some l from rfl, Oper.semAt_some l _ _ hd]
 generalize (execOp a.eval o).run P w = r at *
 cases r with
 | ok x w' =>
  cases x <;> simp only [Oper.upon, Oper.uponIn] at h ⊢ <;> first
   | exact h
   | exact h.elim
   | exact ⟨fun hh => (by cases hh), CallsIn.inRound l (callsIn_wide.2 (Calls.mono h fun e w'' he => (by cases e <;> exact he)))⟩
   | exact ⟨fun hh => (by cases hh), fun c cs _ => (by obtain ⟨v, w', r, s⟩ := h c cs; exact ⟨v, w', r, stepsIn_wide.2 s⟩)⟩
 | halt x w' => cases x <;> simp only [Oper.upon, Oper.uponIn] at h ⊢ <;> exact h
theorem zpk {ops : Array Oper} (hd : ∀ (i : Nat) (o : Oper), ops[i]? = some o -> ∀ c, o.op ≠ .defer c) (hQ : ¬ LetsOut Q) : ∀ (fuel : Nat) (listed : Array Bool) (a : Act) (w : World), wpAny P .any ops Q fuel listed a w -> wpAnyIn (Fence.wide.inRound l) n P .any ops Q fuel listed a w := by
 intro fuel
 induction fuel with
 | zero => intro listed a w h; exact h
 | succ fuel ih =>
  intro listed a w h
  refine ⟨h.1, fun i hi => ?_⟩
  have h1 := h.2 i hi
  unfold wpOp at h1
  unfold wpOpIn
  cases ho : ops[i]? with
  | none => rw [ho] at h1; exact ih _ _ _ h1
  | some o =>
   rw [ho] at h1
   simp only [] at h1 ⊢
   split
   . rename_i hw
     rw [if_pos hw] at h1
     rcases h1 with h1 | h1
     . exact Oper.wpIn_mono (fun a w hh => ih _ a w hh) (zl0 (hd i o ho) h1)
     . exact absurd h1.2 hQ
   . rename_i hw
     rw [if_neg hw] at h1
     exact ⟨fun _ _ => trivial, ih _ _ _ h1⟩
def zg8 (ops : List Oper) : Bool := ops.all fun o => match o.op with | .defer _ => false | _ => true
theorem zku {ops : List Oper} (h : zg8 ops = true) (i : Nat) (o : Oper) (hi : ops.toArray[i]? = some o) : ∀ c, o.op ≠ .defer c := by
 intro c hc
 unfold zg8 at h
 rw [List.all_eq_true] at h
 have := h o (List.mem_of_getElem? (by simpa using hi))
 rw [hc] at this
 cases this
variable {ops : List Oper} {a0 : Act} {w0 : World}
theorem zi7 {id : Nat} (hnd : zg8 ops = true) (hQ : ¬ LetsOut Q) (hm : P.follows .mixedOrders = true) (L M : World -> World -> Prop) (F : Nat -> Value -> World -> Prop) (marks : List Nat) (S : Nat -> World -> Prop) (hok : zb1 ops a0.tmps.size = true)
 (htr : ∀ a b c, M a b -> M b c -> M a c) (hrf : ∀ a, L a a) (hLM : ∀ a b, L a b -> M a b) (hSL : ∀ k a b, L a b -> S k a -> S k b) (hdr : M w0 w0.drew) (h0 : S 0 w0.drew) (hst : ∀ i v w w', F i v w -> M w w' -> F i v w') (hob : Obls2 P ops a0 w0 L M F marks S 0 ops)
 (hmarks : ∀ i, i ∈ marks -> i < ops.length)
 (hend : ∀ (vals : Nat -> Value) w, M w0 w -> S marks.length w -> (∀ i, i < ops.length -> F i (vals i) w) -> Q .normal (zar vals 0 ops a0) w) : (Code.region id ops.toArray true).wpIn (Fence.wide.inRound l) n P Q a0 w0 :=
 wpIn_region_any hm (zpk (zku hnd) hQ _ _ _ _ (zmb L M F marks S hok htr hrf hLM hSL hdr h0 hst hob hmarks hend))
end
section
variable {F : Fence} {n : Nat} {P : Program}
def Tells {α : Type} (F : Fence) (n : Nat) (P : Program) (g : Nat) (lb : Array Value) (encs : α -> Array Value) (Kp : World -> World -> Prop) (St : Nat -> World -> World -> Prop) (G : α -> World -> Prop) (S : List α -> Prop) (N : Nat) (w : World) : Prop :=
 ∀ (l : Nat) (J : List α -> World -> Prop) (W : World), Below w.heap.size w W -> (∀ s A C, J s A -> St W.heap.size A C -> J s C) →
  (∀ pre x V, J pre V -> pre.length < N -> G x V -> YieldAt F (n - 1) P l (encs x) V fun e V' => e = .returned (.bool true) /\ J (pre ++ [x]) V' /\ Kp V V') →
  J [] W -> CallsIn F n P g (#[.func (.yield l) #[] #[]] ++ lb) W fun e W' => (∃ v, e = .returned v) /\ ∃ xs, S xs /\ J xs W'
def ztc {α : Type} (B : Nat) (Kp : World -> World -> Prop) (I : List α -> World -> Prop) (xs : List α) (W : World) : Exit -> Act -> World -> Prop
 | .normal, _, W' => KeepsFrom B W W' /\ Kp W W' /\ I xs W'
 | _, _, _ => False
theorem zdi {α : Type} {g : Operand} {ps : Array Tmp} {assign body : Code} {Q : Exit -> Act -> World -> Prop} {a : Act} {w : World}
 (hro : F.round = none) (h1 : 1 <= n) {gf : Nat} {lb : Array Value} (hg : a.eval g = .func (.func gf) #[] lb) (hFg : F.fn gf) (eg : ∀ args w, (callFunc gf args).run P w = .ok (.enter gf args) w)
 {encs : α -> Array Value} {Kp : World -> World -> Prop} {St : Nat -> World -> World -> Prop} {G : α -> World -> Prop} {S : List α -> Prop} {N : Nat} (hseq : Tells F (n - 1) P gf lb encs Kp St G S N w) (hps : ∀ x, (encs x).size = ps.size)
 (hKt : ∀ A B C : World, Kp A B -> Kp B C -> Kp A C) (hKb : ∀ (W : World) (l : Nat) (o o' : Obj), w.heap.size <= l -> W.heap[l]? = some o -> o.isCells = false -> Kp W (W.putObj l o'))
 (hGb : ∀ (x : α) (W : World) (l : Nat) (o o' : Obj), W.heap[l]? = some o -> o.isCells = false -> G x W -> G x (W.putObj l o'))
 (hSt : ∀ (A C : World) (k : Nat) (o : Obj), St (w.heap.size + 2) A C -> A.heap[k]? = some o -> o.isCells = false -> C.heap[k]? = some o)
 (I : List α -> World -> Prop) (hI : OwnFrom w.heap.size I) (hIs : ∀ s A C, I s A -> St (w.heap.size + 2) A C -> I s C) (h0 : I [] w) (a₁ : α -> Act)
 (hassign : ∀ (l : Nat) (x : α) (W : World) (K : Act -> World -> Prop), K (a₁ x) W →
   assign.wpIn (F.inRound l) (n - 1 - 1) P (Exit.then K (fun _ _ _ => False)) { tmps := (ps.zip (encs x)).foldl (fun t (p, v) => t.setIfInBounds p v) a.tmps, defers := [] } W)
 (hbody : ∀ (l : Nat) (pre : List α) (x : α) (W : World), I pre W -> pre.length < N -> G x W -> body.wpIn (F.inRound l) (n - 1 - 1) P (ztc w.heap.size Kp I (pre ++ [x]) W) (a₁ x) W)
 (hdone : ∀ (D : Nat) (xs : List α) (W : World), w.heap.size <= D -> S xs -> I xs W -> W.heap[D]? = some (.deferred (some [])) -> Q .normal { a with defers := { target := .collected D, args := #[] } :: a.defers } W) :
 (Code.rangeFunc g ps assign body).wpIn F n P Q a w := by
 refine wpIn_rangeFunc fun fn hfn => ?_
 rw [hro]
 -- the loop's record and the block for deferred calls
 let rc : LoopState -> Option Code -> Loop := fun st pe => { state := st, pending := pe, fn, tmps := a.tmps, params := ps, assign, body, defers := w.heap.size }
 have hrc : ∀ st pe, rc st pe = { state := st, pending := pe, fn, tmps := a.tmps, params := ps, assign, body, defers := w.heap.size } := fun _ _ => rfl
 obtain ⟨V, hV⟩ : ∃ V, (w.alloc (.deferred (some []))).alloc (.loop (rc .ready none)) = V := ⟨_, rfl⟩
 have hVs : V.heap.size = w.heap.size + 2 := by rw [<- hV]; simp
 have hVl : V.heap[w.heap.size + 1]? = some (.loop (rc .ready none)) := by
  have := World.alloc_heap_new (w.alloc (.deferred (some []))) (.loop (rc .ready none))
  rw [World.size_alloc, hV] at this
  exact this
 have hVd : V.heap[w.heap.size]? = some (.deferred (some [])) := by
  rw [<- hV]
  exact (Below.heap_alloc _ _ _ (by simp)).trans (World.alloc_heap_new w _)
 have hVI : I [] V := by rw [<- hV]; exact hI.alloc _ (hI.alloc _ h0)
 have hVb : Below w.heap.size w V := by
  rw [<- hV]
  exact ((Below.refl _ w).alloc (Nat.le_refl _) _).alloc (by simp) _
 refine ⟨w.heap.size + 1, [{ target := .collected w.heap.size, args := #[] }], V, { target := .fn (.func gf) lb, args := #[.func (.yield (w.heap.size + 1)) #[] #[]] }, V, gf, #[.func (.yield (w.heap.size + 1)) #[] #[]] ++ lb, V, ?_, ?_, ?_, ?_, fun _ => h1, ?_⟩
 . rw [<- hV]; exact run_enterLoop_outer _ _ _ _ _
 . simp only [resolve, hg]
   simp [go_sem]
 . intro f hf
   simp [Target.leads] at hf
   subst hf
   exact hFg
 . simp [invoke, go_sem, eg]
 . refine (hseq (w.heap.size + 1) (fun pre W => I pre W /\ W.heap[w.heap.size + 1]? = some (.loop (rc .ready none)) /\ W.heap[w.heap.size]? = some (.deferred (some []))) V hVb ?_ ?_ ⟨hVI, hVl, hVd⟩).mono ?_
   . rintro s A C ⟨hi, hl, hd⟩ hs
     rw [hVs] at hs
     exact ⟨hIs s A C hi hs, hSt A C _ _ hs hl rfl, hSt A C _ _ hs hd rfl⟩
   . rintro pre x W ⟨hi, hl, hd⟩ hlen hg0
     have hlt : w.heap.size + 1 < W.heap.size := (Array.getElem?_eq_some_iff.1 hl).1
     refine ⟨fn, _, assign, body, run_yield hl (hps x), roundIn_of_wpIn hfn (hassign _ x W _ ⟨_, run_beginRound hl rfl, ?_⟩)⟩
     generalize hX : W.putObj (w.heap.size + 1) (.loop { rc .ready none with state := .busy }) = X
     have hXl : X.heap[w.heap.size + 1]? = some (.loop { rc .ready none with state := .busy }) := by rw [<- hX]; exact World.putObj_heap_same hlt
     have hXd : X.heap[w.heap.size]? = some (.deferred (some [])) := by rw [<- hX]; exact (World.putObj_heap_other (by omega)).trans hd
     have hXk : Kp W X := by rw [<- hX]; exact hKb _ _ _ _ (by omega) hl rfl
     have hXi : I pre X := by rw [<- hX]; exact hI.putObj _ hi (by omega) hl rfl
     have hXg : G x X := by rw [<- hX]; exact hGb _ _ _ _ _ hl rfl hg0
     refine wpIn_mono (hbody _ pre x X hXi hlen hXg) fun e a3 Y hY => ?_
     cases e <;> try exact hY.elim
     obtain ⟨k1, k2, k3⟩ := hY
     have hYl := k1.same _ _ (by omega) hXl rfl
     have hYd := k1.same _ _ (Nat.le_refl _) hXd rfl
     have hlt2 : w.heap.size + 1 < Y.heap.size := (Array.getElem?_eq_some_iff.1 hYl).1
     refine ⟨_, _, run_endRound none hYl, rfl, ⟨hI.putObj _ k3 (by omega) hYl rfl, World.putObj_heap_same hlt2, (World.putObj_heap_other (by omega)).trans hYd⟩, hKt _ _ _ (hKt _ _ _ hXk k2) (hKb _ _ _ _ (by omega) hYl rfl)⟩
   . rintro e W ⟨⟨v, rfl⟩, xs, hS, hi, hl, hd⟩
     exact ⟨none, _, run_endLoop hl (by rw [hrc]; simp), hdone _ xs _ (Nat.le_refl _) hS (hI.putObj _ hi (by omega) hl rfl) ((World.putObj_heap_other (by omega)).trans hd)⟩
end
end Go.Proofs.YtnoeconcpgdjlaaGreat
