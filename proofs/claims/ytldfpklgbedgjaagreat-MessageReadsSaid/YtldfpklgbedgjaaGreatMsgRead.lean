/-
 Merged: Messages, the mathematics: read part by part, each up to whatever bound that lets through what a right message has.
-/
import Derived.Test.YtldfpklgbedgjaaGreatBrMath
namespace Go.Proofs.YtldfpklgbedgjaaGreat
set_option linter.unusedSimpArgs false
set_option linter.unusedVariables false
namespace Msg
namespace By
structure Bds where
 k : Int
 s : Int
 d : Int
 t : Int
 sh : Int
 n : Int
 b : Int
 o : Int
 x : Nat → Int
structure Bds.Ok (B : Bds) : Prop where
 k : 10 ≤ B.k
 s : 15 ≤ B.s
 d : 15 ≤ B.d
 t : 64 ≤ B.t
 sh : 7 ≤ B.sh
 n : 1099511627776 ≤ B.n
 b : 1099511627776 ≤ B.b
 o : 1099511627776 ≤ B.o
 x1 : ∀ r, Rec.right r = true → ((Rec.enc r).length : Int) ≤ B.x 1
 x3 : ∀ e, Ent.right e = true → ((Ent.enc e).length : Int) ≤ B.x 3
 x8 : ∀ c, Term.right c = true → ((Term.enc c).length : Int) ≤ B.x 8
 x9 : ∀ c, Term.right c = true → ((Term.enc c).length : Int) ≤ B.x 9
def optNum (c : Bool) (most : Int) (s : Pack.St) : Pack.St × Nat := if c then s.num most else (s, 0)
def optText (c : Bool) (most : Int) (s : Pack.St) : Pack.St × List UInt8 := if c then s.text most else (s, [])
def stK (B : Bds) (l : List UInt8) : Pack.St × Nat := Pack.St.num ⟨l, 0⟩ B.k
def stS (B : Bds) (l : List UInt8) : Pack.St × Nat := (stK B l).1.num B.s
def stD (B : Bds) (l : List UInt8) : Pack.St × Nat := (stS B l).1.num B.d
def stT (B : Bds) (l : List UInt8) : Pack.St × Nat := (stD B l).1.num B.t
def k (B : Bds) (l : List UInt8) : Nat := (stK B l).2
def stShard (B : Bds) (l : List UInt8) : Pack.St × Nat := optNum (decide (k B l = 1 ∨ k B l = 2)) B.sh (stT B l).1
def stNumber (B : Bds) (l : List UInt8) : Pack.St × Nat := optNum (decide (k B l = 1 ∨ k B l = 2 ∨ k B l = 4 ∨ k B l = 6)) B.n (stShard B l).1
def stBallot (B : Bds) (l : List UInt8) : Pack.St × Nat := optNum (decide (7 ≤ k B l ∧ k B l ≤ 10)) B.b (stNumber B l).1
def stOld (B : Bds) (l : List UInt8) : Pack.St × Nat := optNum (decide (k B l = 8)) B.o (stBallot B l).1
def stIs (B : Bds) (l : List UInt8) : Pack.St × Bool := optBool (decide (k B l = 4 ∨ k B l = 6 ∨ k B l = 10)) (stOld B l).1
def stText (B : Bds) (l : List UInt8) : Pack.St × List UInt8 := optText (decide (k B l = 1 ∨ k B l = 3 ∨ k B l = 9 ∨ (k B l = 8 ∧ (stOld B l).2 ≠ 0))) (B.x (k B l)) (stIs B l).1
def recOf (B : Bds) (l : List UInt8) : Rec.R := if k B l = 1 then (Rec.dec (stText B l).2).getD rec0 else rec0
def entOf (B : Bds) (vd : List UInt8 → List Int) (l : List UInt8) : Ent.E := if k B l = 3 then (Ent.dec vd (stText B l).2).getD ent0 else ent0
def confOf (B : Bds) (l : List UInt8) : Term.C := if k B l = 9 ∨ (k B l = 8 ∧ (stOld B l).2 ≠ 0) then (Term.dec (stText B l).2).getD conf0 else conf0
def read (B : Bds) (vd : List UInt8 → List Int) (l : List UInt8) : M := ⟨k B l, (stS B l).2, (stD B l).2, (stT B l).2, (stShard B l).2, (stNumber B l).2, (stIs B l).2, recOf B l, entOf B vd l, (stBallot B l).2, (stOld B l).2, confOf B l⟩
theorem read_g {n most : Int} (h0 : 0 ≤ n) (h1 : n ≤ 1099511627776) (h2 : n ≤ most) (r : List UInt8) : Pack.St.num ⟨num n ++ r, 0⟩ most = (⟨r, 0⟩, n.toNat) :=
 Pack.read_num _ _ _ _ (by omega) (by omega)
theorem read_gl {n most : Int} (h0 : 0 ≤ n) (h1 : n ≤ 1099511627776) (h2 : n ≤ most) : Pack.St.num ⟨num n, 0⟩ most = (⟨[], 0⟩, n.toNat) := by
 have := read_g h0 h1 h2 []
 rwa [List.append_nil] at this
theorem read_gt {l : List UInt8} {most : Int} (h : (l.length : Int) ≤ most) (h1 : l.length ≤ 65536) : Pack.St.text ⟨textOf l, 0⟩ most = (⟨[], 0⟩, l) := by
 unfold Pack.St.text textOf
 rw [Pack.read_num _ _ _ _ (by omega) (by omega)]
 simp
theorem read_head {B : Bds} (hB : B.Ok) {m : M} (hk : 0 ≤ m.kind ∧ m.kind ≤ 10) (h : headOk m = true) : (k B (text m) : Int) = m.kind ∧ ((stS B (text m)).2 : Int) = m.src ∧ ((stD B (text m)).2 : Int) = m.dst ∧ ((stT B (text m)).2 : Int) = m.term ∧ (stT B (text m)).1 = ⟨parts m, 0⟩ := by
 obtain ⟨h1, h2, h3, h4, h5⟩ := head_ok h
 obtain ⟨b1, b2, b3, b4, b5, b6, b7, b8, x1, x3, x8, x9⟩ := hB
 have hK : stK B (text m) = (⟨num m.src ++ (num m.dst ++ (num m.term ++ parts m)), 0⟩, m.kind.toNat) := read_g hk.1 (by omega) (by omega) _
 have hS : stS B (text m) = (⟨num m.dst ++ (num m.term ++ parts m), 0⟩, m.src.toNat) := by unfold stS; rw [hK]; exact read_g h1.1 (by omega) (by omega) _
 have hD : stD B (text m) = (⟨num m.term ++ parts m, 0⟩, m.dst.toNat) := by unfold stD; rw [hS]; exact read_g h2.1 (by omega) (by omega) _
 have hT : stT B (text m) = (⟨parts m, 0⟩, m.term.toNat) := by unfold stT; rw [hD]; exact read_g (by omega) (by omega) (by omega) _
 unfold k
 rw [hK, hS, hD, hT]
 exact ⟨toNat_back hk.1, toNat_back h1.1, toNat_back h2.1, toNat_back (by omega), rfl⟩
theorem reads1 {B : Bds} (hB : B.Ok) {m : M} (h : headOk m = true) (k1 : m.kind = 1) (r : Rec.right m.reco = true) : k B (text m) = 1 ∧ stShard B (text m) = (⟨num m.number ++ textOf (Rec.enc m.reco), 0⟩, m.shard.toNat) ∧ stNumber B (text m) = (⟨textOf (Rec.enc m.reco), 0⟩, m.number.toNat) ∧ stBallot B (text m) = (⟨textOf (Rec.enc m.reco), 0⟩, 0) ∧ stOld B (text m) = (⟨textOf (Rec.enc m.reco), 0⟩, 0) ∧ stIs B (text m) = (⟨textOf (Rec.enc m.reco), 0⟩, false) ∧ stText B (text m) = (⟨[], 0⟩, Rec.enc m.reco) := by
 obtain ⟨h1, h2, h3, h4, h5⟩ := head_ok h
 have hl := Rec.enc_le r
 obtain ⟨hk0, _, _, _, hT⟩ := read_head hB (by omega) h
 obtain ⟨b1, b2, b3, b4, b5, b6, b7, b8, x1, x3, x8, x9⟩ := hB
 have hk : k B (text m) = 1 := by omega
 have hp : parts m = num m.shard ++ (num m.number ++ textOf (Rec.enc m.reco)) := by
  unfold parts
  rw [if_pos (by omega)]
 rw [hp] at hT
 have r_shard : stShard B (text m) = (⟨num m.number ++ textOf (Rec.enc m.reco), 0⟩, m.shard.toNat) := by unfold stShard optNum; rw [hT]; simp only [hk]; exact read_g (by omega) (by omega) (by omega) _
 have r_number : stNumber B (text m) = (⟨textOf (Rec.enc m.reco), 0⟩, m.number.toNat) := by unfold stNumber optNum; rw [r_shard]; simp only [hk]; exact read_g (by omega) (by omega) (by omega) _
 have r_ballot : stBallot B (text m) = (⟨textOf (Rec.enc m.reco), 0⟩, 0) := by unfold stBallot optNum; rw [r_number]; simp only [hk]; rfl
 have r_old : stOld B (text m) = (⟨textOf (Rec.enc m.reco), 0⟩, 0) := by unfold stOld optNum; rw [r_ballot]; simp only [hk]; rfl
 have r_is : stIs B (text m) = (⟨textOf (Rec.enc m.reco), 0⟩, false) := by unfold stIs optBool; rw [r_old]; simp only [hk]; rfl
 have r_text : stText B (text m) = (⟨[], 0⟩, Rec.enc m.reco) := by unfold stText optText; rw [r_is]; simp only [hk]; exact read_gt (x1 _ r) (by omega)
 exact ⟨hk, r_shard, r_number, r_ballot, r_old, r_is, r_text⟩
theorem reads2 {B : Bds} (hB : B.Ok) {m : M} (h : headOk m = true) (k1 : m.kind = 2)  : k B (text m) = 2 ∧ stShard B (text m) = (⟨num m.number, 0⟩, m.shard.toNat) ∧ stNumber B (text m) = (⟨[], 0⟩, m.number.toNat) ∧ stBallot B (text m) = (⟨[], 0⟩, 0) ∧ stOld B (text m) = (⟨[], 0⟩, 0) ∧ stIs B (text m) = (⟨[], 0⟩, false) ∧ stText B (text m) = (⟨[], 0⟩, []) := by
 obtain ⟨h1, h2, h3, h4, h5⟩ := head_ok h
 obtain ⟨hk0, _, _, _, hT⟩ := read_head hB (by omega) h
 obtain ⟨b1, b2, b3, b4, b5, b6, b7, b8, x1, x3, x8, x9⟩ := hB
 have hk : k B (text m) = 2 := by omega
 have hp : parts m = num m.shard ++ num m.number := by
  unfold parts
  rw [if_neg (by omega)]
  rw [if_pos (by omega)]
 rw [hp] at hT
 have r_shard : stShard B (text m) = (⟨num m.number, 0⟩, m.shard.toNat) := by unfold stShard optNum; rw [hT]; simp only [hk]; exact read_g (by omega) (by omega) (by omega) _
 have r_number : stNumber B (text m) = (⟨[], 0⟩, m.number.toNat) := by unfold stNumber optNum; rw [r_shard]; simp only [hk]; exact read_gl (by omega) (by omega) (by omega)
 have r_ballot : stBallot B (text m) = (⟨[], 0⟩, 0) := by unfold stBallot optNum; rw [r_number]; simp only [hk]; rfl
 have r_old : stOld B (text m) = (⟨[], 0⟩, 0) := by unfold stOld optNum; rw [r_ballot]; simp only [hk]; rfl
 have r_is : stIs B (text m) = (⟨[], 0⟩, false) := by unfold stIs optBool; rw [r_old]; simp only [hk]; rfl
 have r_text : stText B (text m) = (⟨[], 0⟩, []) := by unfold stText optText; rw [r_is]; simp only [hk]; rfl
 exact ⟨hk, r_shard, r_number, r_ballot, r_old, r_is, r_text⟩
theorem reads3 {B : Bds} (hB : B.Ok) {m : M} (h : headOk m = true) (k1 : m.kind = 3) (r : Ent.right m.ent = true) : k B (text m) = 3 ∧ stShard B (text m) = (⟨textOf (Ent.enc m.ent), 0⟩, 0) ∧ stNumber B (text m) = (⟨textOf (Ent.enc m.ent), 0⟩, 0) ∧ stBallot B (text m) = (⟨textOf (Ent.enc m.ent), 0⟩, 0) ∧ stOld B (text m) = (⟨textOf (Ent.enc m.ent), 0⟩, 0) ∧ stIs B (text m) = (⟨textOf (Ent.enc m.ent), 0⟩, false) ∧ stText B (text m) = (⟨[], 0⟩, Ent.enc m.ent) := by
 obtain ⟨h1, h2, h3, h4, h5⟩ := head_ok h
 have hl := Ent.enc_le r
 obtain ⟨hk0, _, _, _, hT⟩ := read_head hB (by omega) h
 obtain ⟨b1, b2, b3, b4, b5, b6, b7, b8, x1, x3, x8, x9⟩ := hB
 have hk : k B (text m) = 3 := by omega
 have hp : parts m = textOf (Ent.enc m.ent) := by
  unfold parts
  rw [if_neg (by omega)]
  rw [if_neg (by omega)]
  rw [if_pos (by omega)]
 rw [hp] at hT
 have r_shard : stShard B (text m) = (⟨textOf (Ent.enc m.ent), 0⟩, 0) := by unfold stShard optNum; rw [hT]; simp only [hk]; rfl
 have r_number : stNumber B (text m) = (⟨textOf (Ent.enc m.ent), 0⟩, 0) := by unfold stNumber optNum; rw [r_shard]; simp only [hk]; rfl
 have r_ballot : stBallot B (text m) = (⟨textOf (Ent.enc m.ent), 0⟩, 0) := by unfold stBallot optNum; rw [r_number]; simp only [hk]; rfl
 have r_old : stOld B (text m) = (⟨textOf (Ent.enc m.ent), 0⟩, 0) := by unfold stOld optNum; rw [r_ballot]; simp only [hk]; rfl
 have r_is : stIs B (text m) = (⟨textOf (Ent.enc m.ent), 0⟩, false) := by unfold stIs optBool; rw [r_old]; simp only [hk]; rfl
 have r_text : stText B (text m) = (⟨[], 0⟩, Ent.enc m.ent) := by unfold stText optText; rw [r_is]; simp only [hk]; exact read_gt (x3 _ r) (by omega)
 exact ⟨hk, r_shard, r_number, r_ballot, r_old, r_is, r_text⟩
theorem reads4 {B : Bds} (hB : B.Ok) {m : M} (h : headOk m = true) (k1 : m.kind = 4)  : k B (text m) = 4 ∧ stShard B (text m) = (⟨num m.number ++ boolOf m.is, 0⟩, 0) ∧ stNumber B (text m) = (⟨boolOf m.is, 0⟩, m.number.toNat) ∧ stBallot B (text m) = (⟨boolOf m.is, 0⟩, 0) ∧ stOld B (text m) = (⟨boolOf m.is, 0⟩, 0) ∧ stIs B (text m) = (⟨[], 0⟩, m.is) ∧ stText B (text m) = (⟨[], 0⟩, []) := by
 obtain ⟨h1, h2, h3, h4, h5⟩ := head_ok h
 obtain ⟨hk0, _, _, _, hT⟩ := read_head hB (by omega) h
 obtain ⟨b1, b2, b3, b4, b5, b6, b7, b8, x1, x3, x8, x9⟩ := hB
 have hk : k B (text m) = 4 := by omega
 have hp : parts m = num m.number ++ boolOf m.is := by
  unfold parts
  rw [if_neg (by omega)]
  rw [if_neg (by omega)]
  rw [if_neg (by omega)]
  rw [if_pos (by omega)]
 rw [hp] at hT
 have r_shard : stShard B (text m) = (⟨num m.number ++ boolOf m.is, 0⟩, 0) := by unfold stShard optNum; rw [hT]; simp only [hk]; rfl
 have r_number : stNumber B (text m) = (⟨boolOf m.is, 0⟩, m.number.toNat) := by unfold stNumber optNum; rw [r_shard]; simp only [hk]; exact read_g (by omega) (by omega) (by omega) _
 have r_ballot : stBallot B (text m) = (⟨boolOf m.is, 0⟩, 0) := by unfold stBallot optNum; rw [r_number]; simp only [hk]; rfl
 have r_old : stOld B (text m) = (⟨boolOf m.is, 0⟩, 0) := by unfold stOld optNum; rw [r_ballot]; simp only [hk]; rfl
 have r_is : stIs B (text m) = (⟨[], 0⟩, m.is) := by unfold stIs optBool; rw [r_old]; simp only [hk]; exact read_b _
 have r_text : stText B (text m) = (⟨[], 0⟩, []) := by unfold stText optText; rw [r_is]; simp only [hk]; rfl
 exact ⟨hk, r_shard, r_number, r_ballot, r_old, r_is, r_text⟩
theorem reads5 {B : Bds} (hB : B.Ok) {m : M} (h : headOk m = true) (k1 : m.kind = 5)  : k B (text m) = 5 ∧ stShard B (text m) = (⟨[], 0⟩, 0) ∧ stNumber B (text m) = (⟨[], 0⟩, 0) ∧ stBallot B (text m) = (⟨[], 0⟩, 0) ∧ stOld B (text m) = (⟨[], 0⟩, 0) ∧ stIs B (text m) = (⟨[], 0⟩, false) ∧ stText B (text m) = (⟨[], 0⟩, []) := by
 obtain ⟨h1, h2, h3, h4, h5⟩ := head_ok h
 obtain ⟨hk0, _, _, _, hT⟩ := read_head hB (by omega) h
 obtain ⟨b1, b2, b3, b4, b5, b6, b7, b8, x1, x3, x8, x9⟩ := hB
 have hk : k B (text m) = 5 := by omega
 have hp : parts m = [] := by
  unfold parts
  rw [if_neg (by omega)]
  rw [if_neg (by omega)]
  rw [if_neg (by omega)]
  rw [if_neg (by omega)]
  rw [if_neg (by omega)]
  rw [if_neg (by omega)]
  rw [if_neg (by omega)]
  rw [if_neg (by omega)]
 rw [hp] at hT
 have r_shard : stShard B (text m) = (⟨[], 0⟩, 0) := by unfold stShard optNum; rw [hT]; simp only [hk]; rfl
 have r_number : stNumber B (text m) = (⟨[], 0⟩, 0) := by unfold stNumber optNum; rw [r_shard]; simp only [hk]; rfl
 have r_ballot : stBallot B (text m) = (⟨[], 0⟩, 0) := by unfold stBallot optNum; rw [r_number]; simp only [hk]; rfl
 have r_old : stOld B (text m) = (⟨[], 0⟩, 0) := by unfold stOld optNum; rw [r_ballot]; simp only [hk]; rfl
 have r_is : stIs B (text m) = (⟨[], 0⟩, false) := by unfold stIs optBool; rw [r_old]; simp only [hk]; rfl
 have r_text : stText B (text m) = (⟨[], 0⟩, []) := by unfold stText optText; rw [r_is]; simp only [hk]; rfl
 exact ⟨hk, r_shard, r_number, r_ballot, r_old, r_is, r_text⟩
theorem reads6 {B : Bds} (hB : B.Ok) {m : M} (h : headOk m = true) (k1 : m.kind = 6)  : k B (text m) = 6 ∧ stShard B (text m) = (⟨num m.number ++ boolOf m.is, 0⟩, 0) ∧ stNumber B (text m) = (⟨boolOf m.is, 0⟩, m.number.toNat) ∧ stBallot B (text m) = (⟨boolOf m.is, 0⟩, 0) ∧ stOld B (text m) = (⟨boolOf m.is, 0⟩, 0) ∧ stIs B (text m) = (⟨[], 0⟩, m.is) ∧ stText B (text m) = (⟨[], 0⟩, []) := by
 obtain ⟨h1, h2, h3, h4, h5⟩ := head_ok h
 obtain ⟨hk0, _, _, _, hT⟩ := read_head hB (by omega) h
 obtain ⟨b1, b2, b3, b4, b5, b6, b7, b8, x1, x3, x8, x9⟩ := hB
 have hk : k B (text m) = 6 := by omega
 have hp : parts m = num m.number ++ boolOf m.is := by
  unfold parts
  rw [if_neg (by omega)]
  rw [if_neg (by omega)]
  rw [if_neg (by omega)]
  rw [if_pos (by omega)]
 rw [hp] at hT
 have r_shard : stShard B (text m) = (⟨num m.number ++ boolOf m.is, 0⟩, 0) := by unfold stShard optNum; rw [hT]; simp only [hk]; rfl
 have r_number : stNumber B (text m) = (⟨boolOf m.is, 0⟩, m.number.toNat) := by unfold stNumber optNum; rw [r_shard]; simp only [hk]; exact read_g (by omega) (by omega) (by omega) _
 have r_ballot : stBallot B (text m) = (⟨boolOf m.is, 0⟩, 0) := by unfold stBallot optNum; rw [r_number]; simp only [hk]; rfl
 have r_old : stOld B (text m) = (⟨boolOf m.is, 0⟩, 0) := by unfold stOld optNum; rw [r_ballot]; simp only [hk]; rfl
 have r_is : stIs B (text m) = (⟨[], 0⟩, m.is) := by unfold stIs optBool; rw [r_old]; simp only [hk]; exact read_b _
 have r_text : stText B (text m) = (⟨[], 0⟩, []) := by unfold stText optText; rw [r_is]; simp only [hk]; rfl
 exact ⟨hk, r_shard, r_number, r_ballot, r_old, r_is, r_text⟩
theorem reads7 {B : Bds} (hB : B.Ok) {m : M} (h : headOk m = true) (k1 : m.kind = 7)  (b : 1 ≤ m.ballot ∧ m.ballot ≤ 1099511627776) : k B (text m) = 7 ∧ stShard B (text m) = (⟨num m.ballot, 0⟩, 0) ∧ stNumber B (text m) = (⟨num m.ballot, 0⟩, 0) ∧ stBallot B (text m) = (⟨[], 0⟩, m.ballot.toNat) ∧ stOld B (text m) = (⟨[], 0⟩, 0) ∧ stIs B (text m) = (⟨[], 0⟩, false) ∧ stText B (text m) = (⟨[], 0⟩, []) := by
 obtain ⟨h1, h2, h3, h4, h5⟩ := head_ok h
 obtain ⟨hk0, _, _, _, hT⟩ := read_head hB (by omega) h
 obtain ⟨b1, b2, b3, b4, b5, b6, b7, b8, x1, x3, x8, x9⟩ := hB
 have hk : k B (text m) = 7 := by omega
 have hp : parts m = num m.ballot := by
  unfold parts
  rw [if_neg (by omega)]
  rw [if_neg (by omega)]
  rw [if_neg (by omega)]
  rw [if_neg (by omega)]
  rw [if_pos (by omega)]
 rw [hp] at hT
 have r_shard : stShard B (text m) = (⟨num m.ballot, 0⟩, 0) := by unfold stShard optNum; rw [hT]; simp only [hk]; rfl
 have r_number : stNumber B (text m) = (⟨num m.ballot, 0⟩, 0) := by unfold stNumber optNum; rw [r_shard]; simp only [hk]; rfl
 have r_ballot : stBallot B (text m) = (⟨[], 0⟩, m.ballot.toNat) := by unfold stBallot optNum; rw [r_number]; simp only [hk]; exact read_gl (by omega) (by omega) (by omega)
 have r_old : stOld B (text m) = (⟨[], 0⟩, 0) := by unfold stOld optNum; rw [r_ballot]; simp only [hk]; rfl
 have r_is : stIs B (text m) = (⟨[], 0⟩, false) := by unfold stIs optBool; rw [r_old]; simp only [hk]; rfl
 have r_text : stText B (text m) = (⟨[], 0⟩, []) := by unfold stText optText; rw [r_is]; simp only [hk]; rfl
 exact ⟨hk, r_shard, r_number, r_ballot, r_old, r_is, r_text⟩
theorem reads80 {B : Bds} (hB : B.Ok) {m : M} (h : headOk m = true) (k1 : m.kind = 8) (o : m.old = 0) (b : 1 ≤ m.ballot ∧ m.ballot ≤ 1099511627776) : k B (text m) = 8 ∧ stShard B (text m) = (⟨num m.ballot ++ num m.old, 0⟩, 0) ∧ stNumber B (text m) = (⟨num m.ballot ++ num m.old, 0⟩, 0) ∧ stBallot B (text m) = (⟨num m.old, 0⟩, m.ballot.toNat) ∧ stOld B (text m) = (⟨[], 0⟩, m.old.toNat) ∧ stIs B (text m) = (⟨[], 0⟩, false) ∧ stText B (text m) = (⟨[], 0⟩, []) := by
 obtain ⟨h1, h2, h3, h4, h5⟩ := head_ok h
 obtain ⟨hk0, _, _, _, hT⟩ := read_head hB (by omega) h
 obtain ⟨b1, b2, b3, b4, b5, b6, b7, b8, x1, x3, x8, x9⟩ := hB
 have hk : k B (text m) = 8 := by omega
 have hp : parts m = num m.ballot ++ num m.old := by
  unfold parts
  rw [if_neg (by omega)]
  rw [if_neg (by omega)]
  rw [if_neg (by omega)]
  rw [if_neg (by omega)]
  rw [if_neg (by omega)]
  rw [if_pos (by omega)]
  rw [if_pos o, o]
  rw [show num 0 = [0] from by unfold num; exact Pack.num_low (by decide)]
 rw [hp] at hT
 have r_shard : stShard B (text m) = (⟨num m.ballot ++ num m.old, 0⟩, 0) := by unfold stShard optNum; rw [hT]; simp only [hk]; rfl
 have r_number : stNumber B (text m) = (⟨num m.ballot ++ num m.old, 0⟩, 0) := by unfold stNumber optNum; rw [r_shard]; simp only [hk]; rfl
 have r_ballot : stBallot B (text m) = (⟨num m.old, 0⟩, m.ballot.toNat) := by unfold stBallot optNum; rw [r_number]; simp only [hk]; exact read_g (by omega) (by omega) (by omega) _
 have r_old : stOld B (text m) = (⟨[], 0⟩, m.old.toNat) := by unfold stOld optNum; rw [r_ballot]; simp only [hk]; exact read_gl (by omega) (by omega) (by omega)
 have r_is : stIs B (text m) = (⟨[], 0⟩, false) := by unfold stIs optBool; rw [r_old]; simp only [hk]; rfl
 have r_text : stText B (text m) = (⟨[], 0⟩, []) := by
  have ho : (stOld B (text m)).2 = 0 := by rw [r_old]; show m.old.toNat = 0; omega
  unfold stText optText
  rw [r_is]
  simp only [hk, ho]
  rfl
 exact ⟨hk, r_shard, r_number, r_ballot, r_old, r_is, r_text⟩
theorem reads8 {B : Bds} (hB : B.Ok) {m : M} (h : headOk m = true) (k1 : m.kind = 8) (r : Term.right m.conf = true) (o : 1 ≤ m.old ∧ m.old ≤ 1099511627776) (b : 1 ≤ m.ballot ∧ m.ballot ≤ 1099511627776) : k B (text m) = 8 ∧ stShard B (text m) = (⟨num m.ballot ++ (num m.old ++ textOf (Term.enc m.conf)), 0⟩, 0) ∧ stNumber B (text m) = (⟨num m.ballot ++ (num m.old ++ textOf (Term.enc m.conf)), 0⟩, 0) ∧ stBallot B (text m) = (⟨num m.old ++ textOf (Term.enc m.conf), 0⟩, m.ballot.toNat) ∧ stOld B (text m) = (⟨textOf (Term.enc m.conf), 0⟩, m.old.toNat) ∧ stIs B (text m) = (⟨textOf (Term.enc m.conf), 0⟩, false) ∧ stText B (text m) = (⟨[], 0⟩, Term.enc m.conf) := by
 obtain ⟨h1, h2, h3, h4, h5⟩ := head_ok h
 have hl := Term.enc_le r
 obtain ⟨hk0, _, _, _, hT⟩ := read_head hB (by omega) h
 obtain ⟨b1, b2, b3, b4, b5, b6, b7, b8, x1, x3, x8, x9⟩ := hB
 have hk : k B (text m) = 8 := by omega
 have hp : parts m = num m.ballot ++ (num m.old ++ textOf (Term.enc m.conf)) := by
  unfold parts
  rw [if_neg (by omega)]
  rw [if_neg (by omega)]
  rw [if_neg (by omega)]
  rw [if_neg (by omega)]
  rw [if_neg (by omega)]
  rw [if_pos (by omega)]
  rw [if_neg (by omega)]
 rw [hp] at hT
 have r_shard : stShard B (text m) = (⟨num m.ballot ++ (num m.old ++ textOf (Term.enc m.conf)), 0⟩, 0) := by unfold stShard optNum; rw [hT]; simp only [hk]; rfl
 have r_number : stNumber B (text m) = (⟨num m.ballot ++ (num m.old ++ textOf (Term.enc m.conf)), 0⟩, 0) := by unfold stNumber optNum; rw [r_shard]; simp only [hk]; rfl
 have r_ballot : stBallot B (text m) = (⟨num m.old ++ textOf (Term.enc m.conf), 0⟩, m.ballot.toNat) := by unfold stBallot optNum; rw [r_number]; simp only [hk]; exact read_g (by omega) (by omega) (by omega) _
 have r_old : stOld B (text m) = (⟨textOf (Term.enc m.conf), 0⟩, m.old.toNat) := by unfold stOld optNum; rw [r_ballot]; simp only [hk]; exact read_g (by omega) (by omega) (by omega) _
 have r_is : stIs B (text m) = (⟨textOf (Term.enc m.conf), 0⟩, false) := by unfold stIs optBool; rw [r_old]; simp only [hk]; rfl
 have r_text : stText B (text m) = (⟨[], 0⟩, Term.enc m.conf) := by
  have ho : (stOld B (text m)).2 ≠ 0 := by rw [r_old]; show m.old.toNat ≠ 0; omega
  have hc : decide (k B (text m) = 1 ∨ k B (text m) = 3 ∨ k B (text m) = 9 ∨ (k B (text m) = 8 ∧ (stOld B (text m)).2 ≠ 0)) = true := decide_eq_true (.inr (.inr (.inr ⟨hk, ho⟩)))
  unfold stText optText
  rw [r_is, if_pos hc, hk]
  exact read_gt (x8 _ r) (by omega)
 exact ⟨hk, r_shard, r_number, r_ballot, r_old, r_is, r_text⟩
theorem reads9 {B : Bds} (hB : B.Ok) {m : M} (h : headOk m = true) (k1 : m.kind = 9) (r : Term.right m.conf = true) (b : 1 ≤ m.ballot ∧ m.ballot ≤ 1099511627776) : k B (text m) = 9 ∧ stShard B (text m) = (⟨num m.ballot ++ textOf (Term.enc m.conf), 0⟩, 0) ∧ stNumber B (text m) = (⟨num m.ballot ++ textOf (Term.enc m.conf), 0⟩, 0) ∧ stBallot B (text m) = (⟨textOf (Term.enc m.conf), 0⟩, m.ballot.toNat) ∧ stOld B (text m) = (⟨textOf (Term.enc m.conf), 0⟩, 0) ∧ stIs B (text m) = (⟨textOf (Term.enc m.conf), 0⟩, false) ∧ stText B (text m) = (⟨[], 0⟩, Term.enc m.conf) := by
 obtain ⟨h1, h2, h3, h4, h5⟩ := head_ok h
 have hl := Term.enc_le r
 obtain ⟨hk0, _, _, _, hT⟩ := read_head hB (by omega) h
 obtain ⟨b1, b2, b3, b4, b5, b6, b7, b8, x1, x3, x8, x9⟩ := hB
 have hk : k B (text m) = 9 := by omega
 have hp : parts m = num m.ballot ++ textOf (Term.enc m.conf) := by
  unfold parts
  rw [if_neg (by omega)]
  rw [if_neg (by omega)]
  rw [if_neg (by omega)]
  rw [if_neg (by omega)]
  rw [if_neg (by omega)]
  rw [if_neg (by omega)]
  rw [if_pos (by omega)]
 rw [hp] at hT
 have r_shard : stShard B (text m) = (⟨num m.ballot ++ textOf (Term.enc m.conf), 0⟩, 0) := by unfold stShard optNum; rw [hT]; simp only [hk]; rfl
 have r_number : stNumber B (text m) = (⟨num m.ballot ++ textOf (Term.enc m.conf), 0⟩, 0) := by unfold stNumber optNum; rw [r_shard]; simp only [hk]; rfl
 have r_ballot : stBallot B (text m) = (⟨textOf (Term.enc m.conf), 0⟩, m.ballot.toNat) := by unfold stBallot optNum; rw [r_number]; simp only [hk]; exact read_g (by omega) (by omega) (by omega) _
 have r_old : stOld B (text m) = (⟨textOf (Term.enc m.conf), 0⟩, 0) := by unfold stOld optNum; rw [r_ballot]; simp only [hk]; rfl
 have r_is : stIs B (text m) = (⟨textOf (Term.enc m.conf), 0⟩, false) := by unfold stIs optBool; rw [r_old]; simp only [hk]; rfl
 have r_text : stText B (text m) = (⟨[], 0⟩, Term.enc m.conf) := by unfold stText optText; rw [r_is]; simp only [hk]; exact read_gt (x9 _ r) (by omega)
 exact ⟨hk, r_shard, r_number, r_ballot, r_old, r_is, r_text⟩
theorem reads10 {B : Bds} (hB : B.Ok) {m : M} (h : headOk m = true) (k1 : m.kind = 10)  (b : 1 ≤ m.ballot ∧ m.ballot ≤ 1099511627776) : k B (text m) = 10 ∧ stShard B (text m) = (⟨num m.ballot ++ boolOf m.is, 0⟩, 0) ∧ stNumber B (text m) = (⟨num m.ballot ++ boolOf m.is, 0⟩, 0) ∧ stBallot B (text m) = (⟨boolOf m.is, 0⟩, m.ballot.toNat) ∧ stOld B (text m) = (⟨boolOf m.is, 0⟩, 0) ∧ stIs B (text m) = (⟨[], 0⟩, m.is) ∧ stText B (text m) = (⟨[], 0⟩, []) := by
 obtain ⟨h1, h2, h3, h4, h5⟩ := head_ok h
 obtain ⟨hk0, _, _, _, hT⟩ := read_head hB (by omega) h
 obtain ⟨b1, b2, b3, b4, b5, b6, b7, b8, x1, x3, x8, x9⟩ := hB
 have hk : k B (text m) = 10 := by omega
 have hp : parts m = num m.ballot ++ boolOf m.is := by
  unfold parts
  rw [if_neg (by omega)]
  rw [if_neg (by omega)]
  rw [if_neg (by omega)]
  rw [if_neg (by omega)]
  rw [if_neg (by omega)]
  rw [if_neg (by omega)]
  rw [if_neg (by omega)]
  rw [if_pos (by omega)]
 rw [hp] at hT
 have r_shard : stShard B (text m) = (⟨num m.ballot ++ boolOf m.is, 0⟩, 0) := by unfold stShard optNum; rw [hT]; simp only [hk]; rfl
 have r_number : stNumber B (text m) = (⟨num m.ballot ++ boolOf m.is, 0⟩, 0) := by unfold stNumber optNum; rw [r_shard]; simp only [hk]; rfl
 have r_ballot : stBallot B (text m) = (⟨boolOf m.is, 0⟩, m.ballot.toNat) := by unfold stBallot optNum; rw [r_number]; simp only [hk]; exact read_g (by omega) (by omega) (by omega) _
 have r_old : stOld B (text m) = (⟨boolOf m.is, 0⟩, 0) := by unfold stOld optNum; rw [r_ballot]; simp only [hk]; rfl
 have r_is : stIs B (text m) = (⟨[], 0⟩, m.is) := by unfold stIs optBool; rw [r_old]; simp only [hk]; exact read_b _
 have r_text : stText B (text m) = (⟨[], 0⟩, []) := by unfold stText optText; rw [r_is]; simp only [hk]; rfl
 exact ⟨hk, r_shard, r_number, r_ballot, r_old, r_is, r_text⟩
theorem read_text {B : Bds} (hB : B.Ok) {vd : List UInt8 → List Int} (hv : ∀ v, Vec.right v = true → vd (Ent.vecBytes v) = v) {m : M} (h : right m = true) : (stText B (text m)).1 = ⟨[], 0⟩ ∧ read B vd (text m) = m := by
 obtain ⟨hh, hi⟩ := right_is h
 obtain ⟨h1, h2, h3, h4, h5⟩ := head_ok hh
 obtain ⟨q1, q2, q3, q4, _⟩ := read_head hB (by have := kind_in h; omega) hh
 cases hi with
 | one k1 b o i r e c =>
  obtain ⟨z0, z1, z2, z3, z4, z5, z6⟩ := reads1 hB hh k1 r
  refine ⟨by rw [z6], ext q1 q2 q3 q4 ?_ ?_ ?_ ?_ ?_ ?_ ?_ ?_⟩
  · show ((stShard B (text m)).2 : Int) = m.shard; rw [z1]; simp only []; omega
  · show ((stNumber B (text m)).2 : Int) = m.number; rw [z2]; simp only []; omega
  · show (stIs B (text m)).2 = m.is; rw [z5]; exact i.symm
  · show recOf B (text m) = m.reco; unfold recOf; rw [if_pos z0, z6]; simp only []; rw [Rec.dec_enc r]; rfl
  · show entOf B vd (text m) = m.ent; unfold entOf; rw [if_neg (by omega)]; exact e.symm
  · show ((stBallot B (text m)).2 : Int) = m.ballot; rw [z3]; simp only []; omega
  · show ((stOld B (text m)).2 : Int) = m.old; rw [z4]; simp only []; omega
  · show confOf B (text m) = m.conf; unfold confOf; rw [if_neg (by omega)]; exact c.symm
 | two k1 b o i r e c =>
  obtain ⟨z0, z1, z2, z3, z4, z5, z6⟩ := reads2 hB hh k1
  refine ⟨by rw [z6], ext q1 q2 q3 q4 ?_ ?_ ?_ ?_ ?_ ?_ ?_ ?_⟩
  · show ((stShard B (text m)).2 : Int) = m.shard; rw [z1]; simp only []; omega
  · show ((stNumber B (text m)).2 : Int) = m.number; rw [z2]; simp only []; omega
  · show (stIs B (text m)).2 = m.is; rw [z5]; exact i.symm
  · show recOf B (text m) = m.reco; unfold recOf; rw [if_neg (by omega)]; exact r.symm
  · show entOf B vd (text m) = m.ent; unfold entOf; rw [if_neg (by omega)]; exact e.symm
  · show ((stBallot B (text m)).2 : Int) = m.ballot; rw [z3]; simp only []; omega
  · show ((stOld B (text m)).2 : Int) = m.old; rw [z4]; simp only []; omega
  · show confOf B (text m) = m.conf; unfold confOf; rw [if_neg (by omega)]; exact c.symm
 | three k1 b o i s n r e c =>
  obtain ⟨z0, z1, z2, z3, z4, z5, z6⟩ := reads3 hB hh k1 e
  refine ⟨by rw [z6], ext q1 q2 q3 q4 ?_ ?_ ?_ ?_ ?_ ?_ ?_ ?_⟩
  · show ((stShard B (text m)).2 : Int) = m.shard; rw [z1]; simp only []; omega
  · show ((stNumber B (text m)).2 : Int) = m.number; rw [z2]; simp only []; omega
  · show (stIs B (text m)).2 = m.is; rw [z5]; exact i.symm
  · show recOf B (text m) = m.reco; unfold recOf; rw [if_neg (by omega)]; exact r.symm
  · show entOf B vd (text m) = m.ent; unfold entOf; rw [if_pos z0, z6]; simp only []; rw [Ent.dec_enc hv e]; rfl
  · show ((stBallot B (text m)).2 : Int) = m.ballot; rw [z3]; simp only []; omega
  · show ((stOld B (text m)).2 : Int) = m.old; rw [z4]; simp only []; omega
  · show confOf B (text m) = m.conf; unfold confOf; rw [if_neg (by omega)]; exact c.symm
 | four k1 b o s r e c =>
  rcases k1 with k1 | k1
  · obtain ⟨z0, z1, z2, z3, z4, z5, z6⟩ := reads4 hB hh k1
    refine ⟨by rw [z6], ext q1 q2 q3 q4 ?_ ?_ ?_ ?_ ?_ ?_ ?_ ?_⟩
    · show ((stShard B (text m)).2 : Int) = m.shard; rw [z1]; simp only []; omega
    · show ((stNumber B (text m)).2 : Int) = m.number; rw [z2]; simp only []; omega
    · show (stIs B (text m)).2 = m.is; rw [z5]
    · show recOf B (text m) = m.reco; unfold recOf; rw [if_neg (by omega)]; exact r.symm
    · show entOf B vd (text m) = m.ent; unfold entOf; rw [if_neg (by omega)]; exact e.symm
    · show ((stBallot B (text m)).2 : Int) = m.ballot; rw [z3]; simp only []; omega
    · show ((stOld B (text m)).2 : Int) = m.old; rw [z4]; simp only []; omega
    · show confOf B (text m) = m.conf; unfold confOf; rw [if_neg (by omega)]; exact c.symm
  · obtain ⟨z0, z1, z2, z3, z4, z5, z6⟩ := reads6 hB hh k1
    refine ⟨by rw [z6], ext q1 q2 q3 q4 ?_ ?_ ?_ ?_ ?_ ?_ ?_ ?_⟩
    · show ((stShard B (text m)).2 : Int) = m.shard; rw [z1]; simp only []; omega
    · show ((stNumber B (text m)).2 : Int) = m.number; rw [z2]; simp only []; omega
    · show (stIs B (text m)).2 = m.is; rw [z5]
    · show recOf B (text m) = m.reco; unfold recOf; rw [if_neg (by omega)]; exact r.symm
    · show entOf B vd (text m) = m.ent; unfold entOf; rw [if_neg (by omega)]; exact e.symm
    · show ((stBallot B (text m)).2 : Int) = m.ballot; rw [z3]; simp only []; omega
    · show ((stOld B (text m)).2 : Int) = m.old; rw [z4]; simp only []; omega
    · show confOf B (text m) = m.conf; unfold confOf; rw [if_neg (by omega)]; exact c.symm
 | five k1 b o i s n r e c =>
  obtain ⟨z0, z1, z2, z3, z4, z5, z6⟩ := reads5 hB hh k1
  refine ⟨by rw [z6], ext q1 q2 q3 q4 ?_ ?_ ?_ ?_ ?_ ?_ ?_ ?_⟩
  · show ((stShard B (text m)).2 : Int) = m.shard; rw [z1]; simp only []; omega
  · show ((stNumber B (text m)).2 : Int) = m.number; rw [z2]; simp only []; omega
  · show (stIs B (text m)).2 = m.is; rw [z5]; exact i.symm
  · show recOf B (text m) = m.reco; unfold recOf; rw [if_neg (by omega)]; exact r.symm
  · show entOf B vd (text m) = m.ent; unfold entOf; rw [if_neg (by omega)]; exact e.symm
  · show ((stBallot B (text m)).2 : Int) = m.ballot; rw [z3]; simp only []; omega
  · show ((stOld B (text m)).2 : Int) = m.old; rw [z4]; simp only []; omega
  · show confOf B (text m) = m.conf; unfold confOf; rw [if_neg (by omega)]; exact c.symm
 | seven k1 b o i s n r e c =>
  obtain ⟨z0, z1, z2, z3, z4, z5, z6⟩ := reads7 hB hh k1 b
  refine ⟨by rw [z6], ext q1 q2 q3 q4 ?_ ?_ ?_ ?_ ?_ ?_ ?_ ?_⟩
  · show ((stShard B (text m)).2 : Int) = m.shard; rw [z1]; simp only []; omega
  · show ((stNumber B (text m)).2 : Int) = m.number; rw [z2]; simp only []; omega
  · show (stIs B (text m)).2 = m.is; rw [z5]; exact i.symm
  · show recOf B (text m) = m.reco; unfold recOf; rw [if_neg (by omega)]; exact r.symm
  · show entOf B vd (text m) = m.ent; unfold entOf; rw [if_neg (by omega)]; exact e.symm
  · show ((stBallot B (text m)).2 : Int) = m.ballot; rw [z3]; simp only []; omega
  · show ((stOld B (text m)).2 : Int) = m.old; rw [z4]; simp only []; omega
  · show confOf B (text m) = m.conf; unfold confOf; rw [if_neg (by omega)]; exact c.symm
 | eight0 k1 b o i s n r e c =>
  obtain ⟨z0, z1, z2, z3, z4, z5, z6⟩ := reads80 hB hh k1 o b
  refine ⟨by rw [z6], ext q1 q2 q3 q4 ?_ ?_ ?_ ?_ ?_ ?_ ?_ ?_⟩
  · show ((stShard B (text m)).2 : Int) = m.shard; rw [z1]; simp only []; omega
  · show ((stNumber B (text m)).2 : Int) = m.number; rw [z2]; simp only []; omega
  · show (stIs B (text m)).2 = m.is; rw [z5]; exact i.symm
  · show recOf B (text m) = m.reco; unfold recOf; rw [if_neg (by omega)]; exact r.symm
  · show entOf B vd (text m) = m.ent; unfold entOf; rw [if_neg (by omega)]; exact e.symm
  · show ((stBallot B (text m)).2 : Int) = m.ballot; rw [z3]; simp only []; omega
  · show ((stOld B (text m)).2 : Int) = m.old; rw [z4]; simp only []; omega
  · show confOf B (text m) = m.conf; unfold confOf; rw [if_neg (by rw [z4]; show ¬ (k B (text m) = 9 ∨ (k B (text m) = 8 ∧ m.old.toNat ≠ 0)); omega)]; exact c.symm
 | eight k1 b o i s n r e c t =>
  obtain ⟨z0, z1, z2, z3, z4, z5, z6⟩ := reads8 hB hh k1 c o b
  refine ⟨by rw [z6], ext q1 q2 q3 q4 ?_ ?_ ?_ ?_ ?_ ?_ ?_ ?_⟩
  · show ((stShard B (text m)).2 : Int) = m.shard; rw [z1]; simp only []; omega
  · show ((stNumber B (text m)).2 : Int) = m.number; rw [z2]; simp only []; omega
  · show (stIs B (text m)).2 = m.is; rw [z5]; exact i.symm
  · show recOf B (text m) = m.reco; unfold recOf; rw [if_neg (by omega)]; exact r.symm
  · show entOf B vd (text m) = m.ent; unfold entOf; rw [if_neg (by omega)]; exact e.symm
  · show ((stBallot B (text m)).2 : Int) = m.ballot; rw [z3]; simp only []; omega
  · show ((stOld B (text m)).2 : Int) = m.old; rw [z4]; simp only []; omega
  · show confOf B (text m) = m.conf; unfold confOf; rw [if_pos (.inr ⟨z0, by rw [z4]; show m.old.toNat ≠ 0; omega⟩), z6]; simp only []; rw [Term.dec_enc c]; rfl
 | nine k1 b o i s n r e c t =>
  obtain ⟨z0, z1, z2, z3, z4, z5, z6⟩ := reads9 hB hh k1 c b
  refine ⟨by rw [z6], ext q1 q2 q3 q4 ?_ ?_ ?_ ?_ ?_ ?_ ?_ ?_⟩
  · show ((stShard B (text m)).2 : Int) = m.shard; rw [z1]; simp only []; omega
  · show ((stNumber B (text m)).2 : Int) = m.number; rw [z2]; simp only []; omega
  · show (stIs B (text m)).2 = m.is; rw [z5]; exact i.symm
  · show recOf B (text m) = m.reco; unfold recOf; rw [if_neg (by omega)]; exact r.symm
  · show entOf B vd (text m) = m.ent; unfold entOf; rw [if_neg (by omega)]; exact e.symm
  · show ((stBallot B (text m)).2 : Int) = m.ballot; rw [z3]; simp only []; omega
  · show ((stOld B (text m)).2 : Int) = m.old; rw [z4]; simp only []; omega
  · show confOf B (text m) = m.conf; unfold confOf; rw [if_pos (.inl z0), z6]; simp only []; rw [Term.dec_enc c]; rfl
 | ten k1 b o s n r e c =>
  obtain ⟨z0, z1, z2, z3, z4, z5, z6⟩ := reads10 hB hh k1 b
  refine ⟨by rw [z6], ext q1 q2 q3 q4 ?_ ?_ ?_ ?_ ?_ ?_ ?_ ?_⟩
  · show ((stShard B (text m)).2 : Int) = m.shard; rw [z1]; simp only []; omega
  · show ((stNumber B (text m)).2 : Int) = m.number; rw [z2]; simp only []; omega
  · show (stIs B (text m)).2 = m.is; rw [z5]
  · show recOf B (text m) = m.reco; unfold recOf; rw [if_neg (by omega)]; exact r.symm
  · show entOf B vd (text m) = m.ent; unfold entOf; rw [if_neg (by omega)]; exact e.symm
  · show ((stBallot B (text m)).2 : Int) = m.ballot; rw [z3]; simp only []; omega
  · show ((stOld B (text m)).2 : Int) = m.old; rw [z4]; simp only []; omega
  · show confOf B (text m) = m.conf; unfold confOf; rw [if_neg (by omega)]; exact c.symm
theorem bool_step {s : Pack.St} (h : s.bool.1.err = 0) : s.err = 0 ∧ s.left = boolOf s.bool.2 ++ s.bool.1.left := by
 unfold Pack.St.bool at h ⊢
 split at h
 · rename_i hl
   exfalso
   by_cases he : s.err = 0
   · simp [Pack.St.fail, he] at h
   · simp [Pack.St.fail, he] at h
 · rename_i b l hl
   split at h
   · exfalso
     by_cases he : s.err = 0
     · simp [Pack.St.fail, he] at h
     · simp [Pack.St.fail, he] at h
   · rename_i hb
     rw [hl]
     simp only at h ⊢
     rw [if_neg hb]
     simp only
     refine ⟨h, ?_⟩
     have : b = 0 ∨ b = 1 := by
      have h1 : b.toNat = 0 ∨ b.toNat = 1 := by omega
      rcases h1 with h1 | h1
      · exact .inl (UInt8.toNat_inj.1 h1)
      · exact .inr (UInt8.toNat_inj.1 h1)
     rcases this with rfl | rfl <;> rfl
theorem oN {c : Bool} {most : Int} {s : Pack.St} (h : (optNum c most s).1.err = 0) : s.err = 0 ∧ s.left = (if c then Pack.num (optNum c most s).2 else []) ++ (optNum c most s).1.left := by
 cases c with
 | false => exact ⟨h, rfl⟩
 | true => exact ⟨Rec.num_err h, Rec.num_left h⟩
theorem oB {c : Bool} {s : Pack.St} (h : (optBool c s).1.err = 0) : s.err = 0 ∧ s.left = (if c then boolOf (optBool c s).2 else []) ++ (optBool c s).1.left := by
 cases c with
 | false => exact ⟨h, rfl⟩
 | true => exact bool_step h
theorem oT {c : Bool} {most : Int} {s : Pack.St} (h : (optText c most s).1.err = 0) : s.err = 0 ∧ s.left = (if c then textOf (optText c most s).2 else []) ++ (optText c most s).1.left := by
 cases c with
 | false => exact ⟨h, rfl⟩
 | true =>
  refine ⟨Rec.num_err (Rec.text_err h), ?_⟩
  have := Rec.text_left h
  rw [this]
  show _ = (Pack.num _ ++ _) ++ _
  rw [List.append_assoc]
  rfl
theorem all_left {B : Bds} {l : List UInt8} (h : (stText B l).1.done = 0) :
 l = Pack.num (k B l) ++ (Pack.num (stS B l).2 ++ (Pack.num (stD B l).2 ++ (Pack.num (stT B l).2 ++
  ((if decide (k B l = 1 ∨ k B l = 2) then Pack.num (stShard B l).2 else []) ++
  ((if decide (k B l = 1 ∨ k B l = 2 ∨ k B l = 4 ∨ k B l = 6) then Pack.num (stNumber B l).2 else []) ++
  ((if decide (7 ≤ k B l ∧ k B l ≤ 10) then Pack.num (stBallot B l).2 else []) ++
  ((if decide (k B l = 8) then Pack.num (stOld B l).2 else []) ++
  ((if decide (k B l = 4 ∨ k B l = 6 ∨ k B l = 10) then boolOf (stIs B l).2 else []) ++
  (if decide (k B l = 1 ∨ k B l = 3 ∨ k B l = 9 ∨ (k B l = 8 ∧ (stOld B l).2 ≠ 0)) then textOf (stText B l).2 else []))))))))) := by
 obtain ⟨d1, d2⟩ := Rec.done_zero h
 obtain ⟨e1, l1⟩ := oT (s := (stIs B l).1) d2
 obtain ⟨e2, l2⟩ := oB (s := (stOld B l).1) e1
 obtain ⟨e3, l3⟩ := oN (s := (stBallot B l).1) e2
 obtain ⟨e4, l4⟩ := oN (s := (stNumber B l).1) e3
 obtain ⟨e5, l5⟩ := oN (s := (stShard B l).1) e4
 obtain ⟨e6, l6⟩ := oN (s := (stT B l).1) e5
 have e7 : (stD B l).1.err = 0 := Rec.num_err (most := B.t) e6
 have l7 : (stD B l).1.left = Pack.num (stT B l).2 ++ (stT B l).1.left := Rec.num_left (most := B.t) e6
 have e8 : (stS B l).1.err = 0 := Rec.num_err (most := B.d) e7
 have l8 : (stS B l).1.left = Pack.num (stD B l).2 ++ (stD B l).1.left := Rec.num_left (most := B.d) e7
 have e9 : (stK B l).1.err = 0 := Rec.num_err (most := B.s) e8
 have l9 : (stK B l).1.left = Pack.num (stS B l).2 ++ (stS B l).1.left := Rec.num_left (most := B.s) e8
 have l0 : l = Pack.num (k B l) ++ (stK B l).1.left := Rec.num_left (s := ⟨l, 0⟩) (most := B.k) e9
 have d0 : (stText B l).1.left = [] := d1
 have L1 : (stIs B l).1.left = (if decide (k B l = 1 ∨ k B l = 3 ∨ k B l = 9 ∨ (k B l = 8 ∧ (stOld B l).2 ≠ 0)) then textOf (stText B l).2 else []) := by
  refine l1.trans ?_
  show _ ++ (stText B l).1.left = _
  rw [d0, List.append_nil]
  rfl
 have L2 : (stOld B l).1.left = _ := l2.trans (congrArg _ L1)
 have L3 : (stBallot B l).1.left = _ := l3.trans (congrArg _ L2)
 have L4 : (stNumber B l).1.left = _ := l4.trans (congrArg _ L3)
 have L5 : (stShard B l).1.left = _ := l5.trans (congrArg _ L4)
 have L6 : (stT B l).1.left = _ := l6.trans (congrArg _ L5)
 exact l0.trans (congrArg _ (l9.trans (congrArg _ (l8.trans (congrArg _ (l7.trans (congrArg _ L6)))))))
theorem ent0_not : Ent.right ent0 = false := by decide
theorem conf0_not : Term.right conf0 = false := by decide
theorem rec_back {t : List UInt8} (h : (Rec.dec t).isSome = true) : Rec.enc ((Rec.dec t).getD rec0) = t := by
 cases hd : Rec.dec t with
 | none => rw [hd] at h; cases h
 | some r => exact (Rec.enc_dec hd).2
def recGot (B : Bds) (l : List UInt8) : Bool := !(decide (k B l = 1)) || (Rec.dec (stText B l).2).isSome
theorem ent_back {vd : List UInt8 → List Int} {t : List UInt8} (h : Ent.right ((Ent.dec vd t).getD ent0) = true) : Ent.enc ((Ent.dec vd t).getD ent0) = t := by
 cases hd : Ent.dec vd t with
 | none => rw [hd] at h; rw [show (none : Option Ent.E).getD ent0 = ent0 from rfl, ent0_not] at h; cases h
 | some r => exact (Ent.enc_dec hd).2
theorem conf_back {t : List UInt8} (h : Term.right ((Term.dec t).getD conf0) = true) : Term.enc ((Term.dec t).getD conf0) = t := by
 cases hd : Term.dec t with
 | none => rw [hd] at h; rw [show (none : Option Term.C).getD conf0 = conf0 from rfl, conf0_not] at h; cases h
 | some r => exact (Term.dec_iff.1 hd).2
theorem text_read {B : Bds} {vd : List UInt8 → List Int} {l : List UInt8} (h : (stText B l).1.done = 0) (hg : recGot B l = true) (hr : right (read B vd l) = true) : text (read B vd l) = l := by
 obtain ⟨hh, hi⟩ := right_is hr
 have hl := all_left h
 have ht : text (read B vd l) = Pack.num (k B l) ++ (Pack.num (stS B l).2 ++ (Pack.num (stD B l).2 ++ (Pack.num (stT B l).2 ++ parts (read B vd l)))) := rfl
 rw [ht]
 refine Eq.trans ?_ hl.symm
 refine congrArg _ (congrArg _ (congrArg _ (congrArg _ ?_)))
 have hK : (read B vd l).kind = (k B l : Int) := rfl
 have hSh : num (read B vd l).shard = Pack.num (stShard B l).2 := rfl
 have hNu : num (read B vd l).number = Pack.num (stNumber B l).2 := rfl
 have hBa : num (read B vd l).ballot = Pack.num (stBallot B l).2 := rfl
 have hOl : num (read B vd l).old = Pack.num (stOld B l).2 := rfl
 have hIs : (read B vd l).is = (stIs B l).2 := rfl
 have hOi : (read B vd l).old = ((stOld B l).2 : Int) := rfl
 have hRe : (read B vd l).reco = recOf B l := rfl
 have hEn : (read B vd l).ent = entOf B vd l := rfl
 have hCo : (read B vd l).conf = confOf B l := rfl
 cases hi with
 | one k1 b o i r e c =>
  have z : k B l = 1 := by omega
  have hx : recOf B l = (Rec.dec (stText B l).2).getD rec0 := by unfold recOf; rw [if_pos z]
  unfold parts
  rw [if_pos k1, hSh, hNu, hRe, hx, rec_back (by unfold recGot at hg; rw [decide_eq_true z] at hg; simpa using hg)]
  simp [z]
 | two k1 b o i r e c =>
  have z : k B l = 2 := by omega
  unfold parts
  rw [if_neg (by omega), if_pos k1, hSh, hNu]
  simp [z]
 | three k1 b o i s n r e c =>
  have z : k B l = 3 := by omega
  have hx : entOf B vd l = (Ent.dec vd (stText B l).2).getD ent0 := by unfold entOf; rw [if_pos z]
  unfold parts
  rw [if_neg (by omega), if_neg (by omega), if_pos k1, hEn, hx, ent_back (by rw [← hx, ← hEn]; exact e)]
  simp [z]
 | four k1 b o s r e c =>
  unfold parts
  rw [if_neg (by omega), if_neg (by omega), if_neg (by omega), if_pos k1, hNu, hIs]
  have z : k B l = 4 ∨ k B l = 6 := by omega
  rcases z with z | z <;> simp [z]
 | five k1 b o i s n r e c =>
  have z : k B l = 5 := by omega
  unfold parts
  rw [if_neg (by omega), if_neg (by omega), if_neg (by omega), if_neg (by omega), if_neg (by omega), if_neg (by omega), if_neg (by omega), if_neg (by omega)]
  simp [z]
 | seven k1 b o i s n r e c =>
  have z : k B l = 7 := by omega
  unfold parts
  rw [if_neg (by omega), if_neg (by omega), if_neg (by omega), if_neg (by omega), if_pos k1, hBa]
  simp [z]
 | eight0 k1 b o i s n r e c =>
  have z : k B l = 8 := by omega
  have zo : (stOld B l).2 = 0 := by omega
  unfold parts
  rw [if_neg (by omega), if_neg (by omega), if_neg (by omega), if_neg (by omega), if_neg (by omega), if_pos k1, if_pos o, hBa]
  simp [z, zo, Pack.num_low]
 | eight k1 b o i s n r e c t =>
  have z : k B l = 8 := by omega
  have zo : (stOld B l).2 ≠ 0 := by omega
  have hx : confOf B l = (Term.dec (stText B l).2).getD conf0 := by unfold confOf; rw [if_pos (.inr ⟨z, zo⟩)]
  unfold parts
  rw [if_neg (by omega), if_neg (by omega), if_neg (by omega), if_neg (by omega), if_neg (by omega), if_pos k1, if_neg (by omega), hBa, hOl, hCo, hx, conf_back (by rw [← hx, ← hCo]; exact c)]
  simp [z, zo]
 | nine k1 b o i s n r e c t =>
  have z : k B l = 9 := by omega
  have hx : confOf B l = (Term.dec (stText B l).2).getD conf0 := by unfold confOf; rw [if_pos (.inl z)]
  unfold parts
  rw [if_neg (by omega), if_neg (by omega), if_neg (by omega), if_neg (by omega), if_neg (by omega), if_neg (by omega), if_pos k1, hBa, hCo, hx, conf_back (by rw [← hx, ← hCo]; exact c)]
  simp [z]
 | ten k1 b o s n r e c =>
  have z : k B l = 10 := by omega
  unfold parts
  rw [if_neg (by omega), if_neg (by omega), if_neg (by omega), if_neg (by omega), if_neg (by omega), if_neg (by omega), if_neg (by omega), if_pos k1, hBa, hIs]
  simp [z]
def ok (B : Bds) (vd : List UInt8 → List Int) (l : List UInt8) : Bool := ((stText B l).1.done == 0) && (recGot B l && right (read B vd l))
theorem dec_yes {B : Bds} {vd : List UInt8 → List Int} (hv : ∀ v, Vec.right v = true → vd (Ent.vecBytes v) = v) {b l : List UInt8} (hc : Crc.cutOf b = some l) (h : ok B vd l = true) : dec vd b = some (read B vd l) := by
 unfold ok at h
 rw [Bool.and_eq_true, Bool.and_eq_true, beq_iff_eq] at h
 refine (dec_iff hv).2 ⟨h.2.2, ?_⟩
 unfold enc
 rw [text_read h.1 h.2.1 h.2.2]
 exact Term.cut_back6 hc
theorem dec_no {B : Bds} (hB : B.Ok) {vd : List UInt8 → List Int} (hv : ∀ v, Vec.right v = true → vd (Ent.vecBytes v) = v) {b l : List UInt8} (hc : Crc.cutOf b = some l) (h : ok B vd l = false) : dec vd b = none := by
 cases hd : dec vd b with
 | none => rfl
 | some m =>
  exfalso
  obtain ⟨h1, h2⟩ := (dec_iff hv).1 hd
  have hl : l = text m := by
   have h3 : Crc.cutOf b = some (text m) := by rw [← h2]; exact Crc.cut_put _
   rw [hc] at h3
   injection h3
  obtain ⟨r1, r2⟩ := read_text hB hv h1
  have hg : recGot B (text m) = true := by
   unfold recGot
   by_cases z : k B (text m) = 1
   · have hk : m.kind = 1 := by have := congrArg M.kind r2; have e : (read B vd (text m)).kind = (k B (text m) : Int) := rfl; omega
     obtain ⟨hh, hi⟩ := right_is h1
     have hr : Rec.right m.reco = true := by
      cases hi with
      | one k1 b o i r e c => exact r
      | _ => omega
     rw [(reads1 hB hh hk hr).2.2.2.2.2.2]
     simp only
     rw [Rec.dec_enc hr]
     simp
   · rw [decide_eq_false z]; rfl
  rw [← hl] at r1 r2 hg
  unfold ok at h
  rw [r1, r2, h1, hg] at h
  simp [Pack.St.done] at h
theorem dec_cut {vd : List UInt8 → List Int} {b : List UInt8} (hc : Crc.cutOf b = none) : dec vd b = none := by
 unfold dec
 rw [hc]
end By
def alike (a b : M) : Bool := ((a.kind == b.kind) && ((a.src == b.src) && ((a.dst == b.dst) && ((a.term == b.term) && ((a.shard == b.shard) && (a.number == b.number)))))) && (((a.is == b.is) && ((a.ballot == b.ballot) && (a.old == b.old))) && (Rec.same a.reco b.reco && (Ent.alike a.ent b.ent && Term.alike a.conf b.conf)))
theorem alike_iff (a b : M) : alike a b = true ↔ a = b := by
 unfold alike
 simp only [Bool.and_eq_true, beq_iff_eq, Rec.same_iff, Ent.alike_iff, Term.alike_iff]
 constructor
 · rintro ⟨⟨h1, h2, h3, h4, h5, h6⟩, ⟨h7, h8, h9⟩, h10, h11, h12⟩
   exact ext h1 h2 h3 h4 h5 h6 h7 h10 h11 h8 h9 h12
 · rintro rfl
   simp
theorem alike_self (a : M) : alike a a = true := (alike_iff a a).2 rfl
end Msg
end Go.Proofs.YtldfpklgbedgjaaGreat
