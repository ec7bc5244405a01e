import Derived.Test.YtnoeconcpgdjlaaGreatBsCrcT
import Derived.Test.YtnoeconcpgdjlaaGreatBsMath2
import Derived.Test.YtnoeconcpgdjlaaGreatBsPack
namespace Go.Proofs.YtnoeconcpgdjlaaGreat
set_option linter.unusedSimpArgs false
set_option linter.unusedVariables false
set_option maxRecDepth 100000
open Go.RowKit
def InBlock (w : World) (v : Value) : Prop := ∀ ad n c, v = .slice (some ad) n c -> ∃ (cs : Array Value) (fr : Nat × Nat), w.heap[ad.block]? = some (.cells cs 5 fr)
def BytesU (w : World) (v : Value) (l : List UInt8) : Prop := Bytes w v l /\ InBlock w v
def KeepU (w w' : World) : Prop := ∀ (k : Nat) (cs : Array Value) (fr : Nat × Nat), w.heap[k]? = some (.cells cs 5 fr) -> w'.heap[k]? = w.heap[k]?
theorem KeepU.refl (w : World) : KeepU w w := fun _ _ _ _ => rfl
theorem KeepU.trans {a b c : World} (h : KeepU a b) (k : KeepU b c) : KeepU a c := fun i cs fr hi => (k i cs fr ((h i cs fr hi).trans hi)).trans (h i cs fr hi)
theorem KeepU.ext {a b : World} (h : Ext a b) : KeepU a b := fun i _ _ hi => h.block i (Array.getElem?_eq_some_iff.1 hi).1
theorem KeepU.but {a b : World} {p : Nat} {cs : Array Value} {t : TypeId} {fr : Nat × Nat} (h : But p a b) (hp : a.heap[p]? = some (.cells cs t fr)) (ht : t ≠ 5) : KeepU a b := fun i cs' fr' hi =>
 h.block i (Array.getElem?_eq_some_iff.1 hi).1 (fun e => by subst e; rw [hp] at hi; simp at hi; exact ht hi.2.1)
theorem BytesU.keep {a b : World} {v : Value} {l : List UInt8} (h : BytesU a v l) (hk : KeepU a b) : BytesU b v l := by
 obtain ⟨⟨ad, cap, rfl, h1, h2, h4, h3⟩, hb⟩ := h
 constructor
 . refine ⟨ad, cap, rfl, h1, h2, h4, fun i hi => ?_⟩
   obtain ⟨q, off, e, hc⟩ := h3 i hi
   subst e
   obtain ⟨cs, fr, hq⟩ := hb _ _ _ rfl
   exact ⟨q, off, rfl, (World.cell?_of_block (hk q cs fr hq)).trans hc⟩
 . intro ad' n c e
   obtain ⟨cs, fr, hq⟩ := hb ad' n c e
   exact ⟨cs, fr, (hk _ cs fr hq).trans hq⟩
theorem BytesU.nil (w : World) : BytesU w (.slice none 0 0) [] := ⟨zbo w, fun ad n c e => by cases e⟩
theorem BytesU.own {w : World} {base : Nat} {v : Value} {l : List UInt8} (h : w.ownsRow base 5 1 v l.length (u8s l)) : BytesU w v l := by
 refine ⟨Sl.ofOwn h, fun ad n c e => ?_⟩
 rcases h.2 with ⟨h0, _⟩ | ⟨g, cap, cur, h0, _, hg, _⟩
 . rw [h0] at e; cases e
 . rw [h0] at e; injection e with e; injection e with e; subst e
   exact ⟨_, _, hg⟩
theorem zm2 {P : Program} {w : World} {t e : TypeId} (ht : P.underlying t = some (.slice e)) (hs : (P.info? e).map (·.size) = some 1) {a : Option Addr} {n cap : Nat} (h : Nat) (hh : h <= cap) (k j : IntKind) :
 (Instr.sliceAt t (.slice a n cap) none (some (.int k (h : Int))) (some (.int j (h : Int)))).run P w = .ok (.slice a h h) w := by
 have he : P.elem t = e := by simp [Program.elem, ht]
 have ht' : P.underlying t = some (.slice (P.elem t)) := by rw [he]; exact ht
 obtain ⟨i, hi, h1⟩ := Option.map_eq_some_iff.1 hs
 rw [run_sliceAt_slice w t _ _ _ _ ht', run_slice_hm w t a n cap ht' k j h h (by omega) (by omega) (by omega)]
 simp [sizeOf, typeInfo, he, hi, Result.andThen, sliced, Addr.add]
theorem Bytes.part {w : World} {a : Option Addr} {n cap : Nat} {l : List UInt8} (h : Bytes w (.slice a n cap) l) (lo hi : Nat) (h1 : lo <= hi) (h2 : hi <= n) :
 Bytes w (.slice (if hi = lo then a else a.map (·.add lo)) (hi - lo) (hi - lo)) ((l.take hi).drop lo) := by
 obtain ⟨a', cap', e, q1, q2, q4, q3⟩ := h.open
 injection e with e1 e2 e3
 subst e1 e2 e3
 have hl : ((l.take hi).drop lo).length = hi - lo := by simp; omega
 refine ⟨if hi = lo then a else a.map (·.add lo), hi - lo, by rw [u8s_length, hl], by rw [u8s_length, hl]; omega, by omega, fun e => ?_, fun i hi' => ?_⟩
 . split at e
   . omega
   . have : a = none := by simpa using e
     have := q4 this
     omega
 . have hi2 : i < hi - lo := by simpa [hl] using hi'
   obtain ⟨b, off, rfl, hc⟩ := q3 (lo + i) (by omega)
   refine ⟨b, off + lo, ?_, ?_⟩
   . rw [if_neg (by omega)]; simp [Addr.add_lit]
   . rw [Nat.add_assoc, hc]
     simp [u8s]
theorem Bytes.part0 {w : World} {a : Option Addr} {n cap : Nat} {l : List UInt8} (h : Bytes w (.slice a n cap) l) (hi : Nat) (h2 : hi <= n) : Bytes w (.slice a hi hi) (l.take hi) := by
 have := h.part 0 hi (Nat.zero_le _) h2
 simp only [List.drop_zero, Nat.sub_zero] at this
 have e : (if hi = 0 then a else a.map (·.add 0)) = a := by
  split
  . rfl
  . cases a with
    | none => rfl
    | some x => simp [Addr.add]
 rw [e] at this
 exact this
theorem InBlock.part {w : World} {a : Option Addr} {n cap : Nat} (h : InBlock w (.slice a n cap)) (p : Prop) [Decidable p] (lo m c : Nat) : InBlock w (.slice (if p then a else a.map (·.add lo)) m c) := by
 intro ad n' c' e
 injection e with e
 cases a with
 | none => simp at e
 | some x =>
  have hb : ad.block = x.block := by
   split at e
   . injection e with e; rw [<- e]
   . simp only [Option.map_some, Option.some.injEq] at e
     rw [<- e]
     unfold Addr.add; split <;> rfl
  rw [hb]
  exact h x _ _ rfl
theorem BytesU.part {w : World} {a : Option Addr} {n cap : Nat} {l : List UInt8} (h : BytesU w (.slice a n cap) l) (lo hi : Nat) (h1 : lo <= hi) (h2 : hi <= n) :
 BytesU w (.slice (if hi = lo then a else a.map (·.add lo)) (hi - lo) (hi - lo)) ((l.take hi).drop lo) := ⟨h.1.part lo hi h1 h2, h.2.part _ _ _ _⟩
end Go.Proofs.YtnoeconcpgdjlaaGreat
