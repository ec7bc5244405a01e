import Derived.Deep.MidRow
import Derived.Test.YtnoeconcpgdjlaaGreatBsEnt
import Derived.Test.YtnoeconcpgdjlaaGreatBsEnt2
import Derived.Test.YtnoeconcpgdjlaaGreatBsMath
import Derived.Test.YtnoeconcpgdjlaaGreatBsMath2
import Derived.Test.YtnoeconcpgdjlaaGreatBsRec
import Derived.Test.YtnoeconcpgdjlaaGreatBsTerm
import Derived.Test.YtnoeconcpgdjlaaGreatBsVec
namespace Go.Proofs.YtnoeconcpgdjlaaGreat
set_option linter.unusedSimpArgs false
set_option linter.unusedVariables false
namespace Msg
namespace By
structure Bds where
 k : Int
 s : Int
 d : Int
 t : Int
 sh : Int
 n : Int
 b : Int
 o : Int
 x : Nat -> Int
structure Bds.Ok (B : Bds) : Prop where
 k : 10 <= B.k
 s : 15 <= B.s
 d : 15 <= B.d
 t : 64 <= B.t
 sh : 7 <= B.sh
 n : 1099511627776 <= B.n
 b : 1099511627776 <= B.b
 o : 1099511627776 <= B.o
 x1 : ∀ r, Rec.right r = true -> ((Rec.enc r).length : Int) <= B.x 1
 x3 : ∀ e, Ent.right e = true -> ((Ent.enc e).length : Int) <= B.x 3
 x8 : ∀ c, Term.right c = true -> ((Term.enc c).length : Int) <= B.x 8
 x9 : ∀ c, Term.right c = true -> ((Term.enc c).length : Int) <= B.x 9
def zak (c : Bool) (most : Int) (s : Pack.St) : Pack.St × Nat := if c then s.num most else (s, 0)
def za3 (c : Bool) (most : Int) (s : Pack.St) : Pack.St × List UInt8 := if c then s.text most else (s, [])
def stK (B : Bds) (l : List UInt8) : Pack.St × Nat := Pack.St.num ⟨l, 0⟩ B.k
def stS (B : Bds) (l : List UInt8) : Pack.St × Nat := (stK B l).1.num B.s
def stD (B : Bds) (l : List UInt8) : Pack.St × Nat := (stS B l).1.num B.d
def stT (B : Bds) (l : List UInt8) : Pack.St × Nat := (stD B l).1.num B.t
def k (B : Bds) (l : List UInt8) : Nat := (stK B l).2
def zai (B : Bds) (l : List UInt8) : Pack.St × Nat := zak (decide (k B l = 1 \/ k B l = 2)) B.sh (stT B l).1
def zae (B : Bds) (l : List UInt8) : Pack.St × Nat := zak (decide (k B l = 1 \/ k B l = 2 \/ k B l = 4 \/ k B l = 6)) B.n (zai B l).1
def zaf (B : Bds) (l : List UInt8) : Pack.St × Nat := zak (decide (7 <= k B l /\ k B l <= 10)) B.b (zae B l).1
def stOld (B : Bds) (l : List UInt8) : Pack.St × Nat := zak (decide (k B l = 8)) B.o (zaf B l).1
def stIs (B : Bds) (l : List UInt8) : Pack.St × Bool := za7 (decide (k B l = 4 \/ k B l = 6 \/ k B l = 10)) (stOld B l).1
def zal (B : Bds) (l : List UInt8) : Pack.St × List UInt8 := za3 (decide (k B l = 1 \/ k B l = 3 \/ k B l = 9 \/ (k B l = 8 /\ (stOld B l).2 ≠ 0))) (B.x (k B l)) (stIs B l).1
def recOf (B : Bds) (l : List UInt8) : Rec.R := if k B l = 1 then (Rec.dec (zal B l).2).getD rec0 else rec0
def entOf (B : Bds) (vd : List UInt8 -> List Int) (l : List UInt8) : Ent.E := if k B l = 3 then (Ent.dec vd (zal B l).2).getD ent0 else ent0
def zau (B : Bds) (l : List UInt8) : Term.C := if k B l = 9 \/ (k B l = 8 /\ (stOld B l).2 ≠ 0) then (Term.dec (zal B l).2).getD conf0 else conf0
def read (B : Bds) (vd : List UInt8 -> List Int) (l : List UInt8) : M := ⟨k B l, (stS B l).2, (stD B l).2, (stT B l).2, (zai B l).2, (zae B l).2, (stIs B l).2, recOf B l, entOf B vd l, (zaf B l).2, (stOld B l).2, zau B l⟩
theorem zch {n most : Int} (h0 : 0 <= n) (h1 : n <= 1099511627776) (h2 : n <= most) (r : List UInt8) : Pack.St.num ⟨num n ++ r, 0⟩ most = (⟨r, 0⟩, n.toNat) :=
 Pack.read_num _ _ _ _ (by omega) (by omega)
theorem zkx {n most : Int} (h0 : 0 <= n) (h1 : n <= 1099511627776) (h2 : n <= most) : Pack.St.num ⟨num n, 0⟩ most = (⟨[], 0⟩, n.toNat) := by
 have := zch h0 h1 h2 []
 rwa [List.append_nil] at this
theorem zhz {l : List UInt8} {most : Int} (h : (l.length : Int) <= most) (h1 : l.length <= 65536) : Pack.St.text ⟨textOf l, 0⟩ most = (⟨[], 0⟩, l) := by
 unfold Pack.St.text textOf
 rw [Pack.read_num _ _ _ _ (by omega) (by omega)]
 simp
theorem zav {B : Bds} (hB : B.Ok) {m : M} (hk : 0 <= m.kind /\ m.kind <= 10) (h : headOk m = true) : (k B (text m) : Int) = m.kind /\ ((stS B (text m)).2 : Int) = m.src /\ ((stD B (text m)).2 : Int) = m.dst /\ ((stT B (text m)).2 : Int) = m.term /\ (stT B (text m)).1 = ⟨parts m, 0⟩ := by
 obtain ⟨h1, h2, h3, h4, h5⟩ := za5 h
 obtain ⟨b1, b2, b3, b4, b5, b6, b7, b8, x1, x3, x8, x9⟩ := hB
 have hK : stK B (text m) = (⟨num m.src ++ (num m.dst ++ (num m.term ++ parts m)), 0⟩, m.kind.toNat) := zch hk.1 (by omega) (by omega) _
 have hS : stS B (text m) = (⟨num m.dst ++ (num m.term ++ parts m), 0⟩, m.src.toNat) := by unfold stS; rw [hK]; exact zch h1.1 (by omega) (by omega) _
 have hD : stD B (text m) = (⟨num m.term ++ parts m, 0⟩, m.dst.toNat) := by unfold stD; rw [hS]; exact zch h2.1 (by omega) (by omega) _
 have hT : stT B (text m) = (⟨parts m, 0⟩, m.term.toNat) := by unfold stT; rw [hD]; exact zch (by omega) (by omega) (by omega) _
 unfold k
 rw [hK, hS, hD, hT]
 exact ⟨zbx hk.1, zbx h1.1, zbx h2.1, zbx (by omega), rfl⟩
theorem zpu {B : Bds} (hB : B.Ok) {m : M} (h : headOk m = true) (k1 : m.kind = 1) (r : Rec.right m.reco = true) : k B (text m) = 1 /\ zai B (text m) = (⟨num m.number ++ textOf (Rec.enc m.reco), 0⟩, m.shard.toNat) /\ zae B (text m) = (⟨textOf (Rec.enc m.reco), 0⟩, m.number.toNat) /\ zaf B (text m) = (⟨textOf (Rec.enc m.reco), 0⟩, 0) /\ stOld B (text m) = (⟨textOf (Rec.enc m.reco), 0⟩, 0) /\ stIs B (text m) = (⟨textOf (Rec.enc m.reco), 0⟩, false) /\ zal B (text m) = (⟨[], 0⟩, Rec.enc m.reco) := by
 obtain ⟨h1, h2, h3, h4, h5⟩ := za5 h
 have hl := Rec.enc_le r
 obtain ⟨hk0, _, _, _, hT⟩ := zav hB (by omega) h
 obtain ⟨b1, b2, b3, b4, b5, b6, b7, b8, x1, x3, x8, x9⟩ := hB
 have hk : k B (text m) = 1 := by omega
 have hp : parts m = num m.shard ++ (num m.number ++ textOf (Rec.enc m.reco)) := by
  unfold parts
  rw [if_pos (by omega)]
 rw [hp] at hT
 have r_shard : zai B (text m) = (⟨num m.number ++ textOf (Rec.enc m.reco), 0⟩, m.shard.toNat) := by unfold zai zak; rw [hT]; simp only [hk]; exact zch (by omega) (by omega) (by omega) _
 have r_number : zae B (text m) = (⟨textOf (Rec.enc m.reco), 0⟩, m.number.toNat) := by unfold zae zak; rw [r_shard]; simp only [hk]; exact zch (by omega) (by omega) (by omega) _
 have r_ballot : zaf B (text m) = (⟨textOf (Rec.enc m.reco), 0⟩, 0) := by unfold zaf zak; rw [r_number]; simp only [hk]; rfl
 have r_old : stOld B (text m) = (⟨textOf (Rec.enc m.reco), 0⟩, 0) := by unfold stOld zak; rw [r_ballot]; simp only [hk]; rfl
 have r_is : stIs B (text m) = (⟨textOf (Rec.enc m.reco), 0⟩, false) := by unfold stIs za7; rw [r_old]; simp only [hk]; rfl
 have r_text : zal B (text m) = (⟨[], 0⟩, Rec.enc m.reco) := by unfold zal za3; rw [r_is]; simp only [hk]; exact zhz (x1 _ r) (by omega)
 exact ⟨hk, r_shard, r_number, r_ballot, r_old, r_is, r_text⟩
theorem zqh {B : Bds} (hB : B.Ok) {m : M} (h : headOk m = true) (k1 : m.kind = 2)  : k B (text m) = 2 /\ zai B (text m) = (⟨num m.number, 0⟩, m.shard.toNat) /\ zae B (text m) = (⟨[], 0⟩, m.number.toNat) /\ zaf B (text m) = (⟨[], 0⟩, 0) /\ stOld B (text m) = (⟨[], 0⟩, 0) /\ stIs B (text m) = (⟨[], 0⟩, false) /\ zal B (text m) = (⟨[], 0⟩, []) := by
 obtain ⟨h1, h2, h3, h4, h5⟩ := za5 h
 obtain ⟨hk0, _, _, _, hT⟩ := zav hB (by omega) h
 obtain ⟨b1, b2, b3, b4, b5, b6, b7, b8, x1, x3, x8, x9⟩ := hB
 have hk : k B (text m) = 2 := by omega
 have hp : parts m = num m.shard ++ num m.number := by
  unfold parts
  rw [if_neg (by omega)]
  rw [if_pos (by omega)]
 rw [hp] at hT
 have r_shard : zai B (text m) = (⟨num m.number, 0⟩, m.shard.toNat) := by unfold zai zak; rw [hT]; simp only [hk]; exact zch (by omega) (by omega) (by omega) _
 have r_number : zae B (text m) = (⟨[], 0⟩, m.number.toNat) := by unfold zae zak; rw [r_shard]; simp only [hk]; exact zkx (by omega) (by omega) (by omega)
 have r_ballot : zaf B (text m) = (⟨[], 0⟩, 0) := by unfold zaf zak; rw [r_number]; simp only [hk]; rfl
 have r_old : stOld B (text m) = (⟨[], 0⟩, 0) := by unfold stOld zak; rw [r_ballot]; simp only [hk]; rfl
 have r_is : stIs B (text m) = (⟨[], 0⟩, false) := by unfold stIs za7; rw [r_old]; simp only [hk]; rfl
 have r_text : zal B (text m) = (⟨[], 0⟩, []) := by unfold zal za3; rw [r_is]; simp only [hk]; rfl
 exact ⟨hk, r_shard, r_number, r_ballot, r_old, r_is, r_text⟩
theorem zpc {B : Bds} (hB : B.Ok) {m : M} (h : headOk m = true) (k1 : m.kind = 3) (r : Ent.right m.ent = true) : k B (text m) = 3 /\ zai B (text m) = (⟨textOf (Ent.enc m.ent), 0⟩, 0) /\ zae B (text m) = (⟨textOf (Ent.enc m.ent), 0⟩, 0) /\ zaf B (text m) = (⟨textOf (Ent.enc m.ent), 0⟩, 0) /\ stOld B (text m) = (⟨textOf (Ent.enc m.ent), 0⟩, 0) /\ stIs B (text m) = (⟨textOf (Ent.enc m.ent), 0⟩, false) /\ zal B (text m) = (⟨[], 0⟩, Ent.enc m.ent) := by
 obtain ⟨h1, h2, h3, h4, h5⟩ := za5 h
 have hl := Ent.enc_le r
 obtain ⟨hk0, _, _, _, hT⟩ := zav hB (by omega) h
 obtain ⟨b1, b2, b3, b4, b5, b6, b7, b8, x1, x3, x8, x9⟩ := hB
 have hk : k B (text m) = 3 := by omega
 have hp : parts m = textOf (Ent.enc m.ent) := by
  unfold parts
  rw [if_neg (by omega)]
  rw [if_neg (by omega)]
  rw [if_pos (by omega)]
 rw [hp] at hT
 have r_shard : zai B (text m) = (⟨textOf (Ent.enc m.ent), 0⟩, 0) := by unfold zai zak; rw [hT]; simp only [hk]; rfl
 have r_number : zae B (text m) = (⟨textOf (Ent.enc m.ent), 0⟩, 0) := by unfold zae zak; rw [r_shard]; simp only [hk]; rfl
 have r_ballot : zaf B (text m) = (⟨textOf (Ent.enc m.ent), 0⟩, 0) := by unfold zaf zak; rw [r_number]; simp only [hk]; rfl
 have r_old : stOld B (text m) = (⟨textOf (Ent.enc m.ent), 0⟩, 0) := by unfold stOld zak; rw [r_ballot]; simp only [hk]; rfl
 have r_is : stIs B (text m) = (⟨textOf (Ent.enc m.ent), 0⟩, false) := by unfold stIs za7; rw [r_old]; simp only [hk]; rfl
 have r_text : zal B (text m) = (⟨[], 0⟩, Ent.enc m.ent) := by unfold zal za3; rw [r_is]; simp only [hk]; exact zhz (x3 _ r) (by omega)
 exact ⟨hk, r_shard, r_number, r_ballot, r_old, r_is, r_text⟩
theorem zoo {B : Bds} (hB : B.Ok) {m : M} (h : headOk m = true) (k1 : m.kind = 4)  : k B (text m) = 4 /\ zai B (text m) = (⟨num m.number ++ zas m.is, 0⟩, 0) /\ zae B (text m) = (⟨zas m.is, 0⟩, m.number.toNat) /\ zaf B (text m) = (⟨zas m.is, 0⟩, 0) /\ stOld B (text m) = (⟨zas m.is, 0⟩, 0) /\ stIs B (text m) = (⟨[], 0⟩, m.is) /\ zal B (text m) = (⟨[], 0⟩, []) := by
 obtain ⟨h1, h2, h3, h4, h5⟩ := za5 h
 obtain ⟨hk0, _, _, _, hT⟩ := zav hB (by omega) h
 obtain ⟨b1, b2, b3, b4, b5, b6, b7, b8, x1, x3, x8, x9⟩ := hB
 have hk : k B (text m) = 4 := by omega
 have hp : parts m = num m.number ++ zas m.is := by
  unfold parts
  rw [if_neg (by omega)]
  rw [if_neg (by omega)]
  rw [if_neg (by omega)]
  rw [if_pos (by omega)]
 rw [hp] at hT
 have r_shard : zai B (text m) = (⟨num m.number ++ zas m.is, 0⟩, 0) := by unfold zai zak; rw [hT]; simp only [hk]; rfl
 have r_number : zae B (text m) = (⟨zas m.is, 0⟩, m.number.toNat) := by unfold zae zak; rw [r_shard]; simp only [hk]; exact zch (by omega) (by omega) (by omega) _
 have r_ballot : zaf B (text m) = (⟨zas m.is, 0⟩, 0) := by unfold zaf zak; rw [r_number]; simp only [hk]; rfl
 have r_old : stOld B (text m) = (⟨zas m.is, 0⟩, 0) := by unfold stOld zak; rw [r_ballot]; simp only [hk]; rfl
 have r_is : stIs B (text m) = (⟨[], 0⟩, m.is) := by unfold stIs za7; rw [r_old]; simp only [hk]; exact zgu _
 have r_text : zal B (text m) = (⟨[], 0⟩, []) := by unfold zal za3; rw [r_is]; simp only [hk]; rfl
 exact ⟨hk, r_shard, r_number, r_ballot, r_old, r_is, r_text⟩
theorem zn8 {B : Bds} (hB : B.Ok) {m : M} (h : headOk m = true) (k1 : m.kind = 5)  : k B (text m) = 5 /\ zai B (text m) = (⟨[], 0⟩, 0) /\ zae B (text m) = (⟨[], 0⟩, 0) /\ zaf B (text m) = (⟨[], 0⟩, 0) /\ stOld B (text m) = (⟨[], 0⟩, 0) /\ stIs B (text m) = (⟨[], 0⟩, false) /\ zal B (text m) = (⟨[], 0⟩, []) := by
 obtain ⟨h1, h2, h3, h4, h5⟩ := za5 h
 obtain ⟨hk0, _, _, _, hT⟩ := zav hB (by omega) h
 obtain ⟨b1, b2, b3, b4, b5, b6, b7, b8, x1, x3, x8, x9⟩ := hB
 have hk : k B (text m) = 5 := by omega
 have hp : parts m = [] := by
  unfold parts
  rw [if_neg (by omega)]
  rw [if_neg (by omega)]
  rw [if_neg (by omega)]
  rw [if_neg (by omega)]
  rw [if_neg (by omega)]
  rw [if_neg (by omega)]
  rw [if_neg (by omega)]
  rw [if_neg (by omega)]
 rw [hp] at hT
 have r_shard : zai B (text m) = (⟨[], 0⟩, 0) := by unfold zai zak; rw [hT]; simp only [hk]; rfl
 have r_number : zae B (text m) = (⟨[], 0⟩, 0) := by unfold zae zak; rw [r_shard]; simp only [hk]; rfl
 have r_ballot : zaf B (text m) = (⟨[], 0⟩, 0) := by unfold zaf zak; rw [r_number]; simp only [hk]; rfl
 have r_old : stOld B (text m) = (⟨[], 0⟩, 0) := by unfold stOld zak; rw [r_ballot]; simp only [hk]; rfl
 have r_is : stIs B (text m) = (⟨[], 0⟩, false) := by unfold stIs za7; rw [r_old]; simp only [hk]; rfl
 have r_text : zal B (text m) = (⟨[], 0⟩, []) := by unfold zal za3; rw [r_is]; simp only [hk]; rfl
 exact ⟨hk, r_shard, r_number, r_ballot, r_old, r_is, r_text⟩
theorem zn9 {B : Bds} (hB : B.Ok) {m : M} (h : headOk m = true) (k1 : m.kind = 6)  : k B (text m) = 6 /\ zai B (text m) = (⟨num m.number ++ zas m.is, 0⟩, 0) /\ zae B (text m) = (⟨zas m.is, 0⟩, m.number.toNat) /\ zaf B (text m) = (⟨zas m.is, 0⟩, 0) /\ stOld B (text m) = (⟨zas m.is, 0⟩, 0) /\ stIs B (text m) = (⟨[], 0⟩, m.is) /\ zal B (text m) = (⟨[], 0⟩, []) := by
 obtain ⟨h1, h2, h3, h4, h5⟩ := za5 h
 obtain ⟨hk0, _, _, _, hT⟩ := zav hB (by omega) h
 obtain ⟨b1, b2, b3, b4, b5, b6, b7, b8, x1, x3, x8, x9⟩ := hB
 have hk : k B (text m) = 6 := by omega
 have hp : parts m = num m.number ++ zas m.is := by
  unfold parts
  rw [if_neg (by omega)]
  rw [if_neg (by omega)]
  rw [if_neg (by omega)]
  rw [if_pos (by omega)]
 rw [hp] at hT
 have r_shard : zai B (text m) = (⟨num m.number ++ zas m.is, 0⟩, 0) := by unfold zai zak; rw [hT]; simp only [hk]; rfl
 have r_number : zae B (text m) = (⟨zas m.is, 0⟩, m.number.toNat) := by unfold zae zak; rw [r_shard]; simp only [hk]; exact zch (by omega) (by omega) (by omega) _
 have r_ballot : zaf B (text m) = (⟨zas m.is, 0⟩, 0) := by unfold zaf zak; rw [r_number]; simp only [hk]; rfl
 have r_old : stOld B (text m) = (⟨zas m.is, 0⟩, 0) := by unfold stOld zak; rw [r_ballot]; simp only [hk]; rfl
 have r_is : stIs B (text m) = (⟨[], 0⟩, m.is) := by unfold stIs za7; rw [r_old]; simp only [hk]; exact zgu _
 have r_text : zal B (text m) = (⟨[], 0⟩, []) := by unfold zal za3; rw [r_is]; simp only [hk]; rfl
 exact ⟨hk, r_shard, r_number, r_ballot, r_old, r_is, r_text⟩
theorem zpl {B : Bds} (hB : B.Ok) {m : M} (h : headOk m = true) (k1 : m.kind = 7)  (b : 1 <= m.ballot /\ m.ballot <= 1099511627776) : k B (text m) = 7 /\ zai B (text m) = (⟨num m.ballot, 0⟩, 0) /\ zae B (text m) = (⟨num m.ballot, 0⟩, 0) /\ zaf B (text m) = (⟨[], 0⟩, m.ballot.toNat) /\ stOld B (text m) = (⟨[], 0⟩, 0) /\ stIs B (text m) = (⟨[], 0⟩, false) /\ zal B (text m) = (⟨[], 0⟩, []) := by
 obtain ⟨h1, h2, h3, h4, h5⟩ := za5 h
 obtain ⟨hk0, _, _, _, hT⟩ := zav hB (by omega) h
 obtain ⟨b1, b2, b3, b4, b5, b6, b7, b8, x1, x3, x8, x9⟩ := hB
 have hk : k B (text m) = 7 := by omega
 have hp : parts m = num m.ballot := by
  unfold parts
  rw [if_neg (by omega)]
  rw [if_neg (by omega)]
  rw [if_neg (by omega)]
  rw [if_neg (by omega)]
  rw [if_pos (by omega)]
 rw [hp] at hT
 have r_shard : zai B (text m) = (⟨num m.ballot, 0⟩, 0) := by unfold zai zak; rw [hT]; simp only [hk]; rfl
 have r_number : zae B (text m) = (⟨num m.ballot, 0⟩, 0) := by unfold zae zak; rw [r_shard]; simp only [hk]; rfl
 have r_ballot : zaf B (text m) = (⟨[], 0⟩, m.ballot.toNat) := by unfold zaf zak; rw [r_number]; simp only [hk]; exact zkx (by omega) (by omega) (by omega)
 have r_old : stOld B (text m) = (⟨[], 0⟩, 0) := by unfold stOld zak; rw [r_ballot]; simp only [hk]; rfl
 have r_is : stIs B (text m) = (⟨[], 0⟩, false) := by unfold stIs za7; rw [r_old]; simp only [hk]; rfl
 have r_text : zal B (text m) = (⟨[], 0⟩, []) := by unfold zal za3; rw [r_is]; simp only [hk]; rfl
 exact ⟨hk, r_shard, r_number, r_ballot, r_old, r_is, r_text⟩
theorem zkc {B : Bds} (hB : B.Ok) {m : M} (h : headOk m = true) (k1 : m.kind = 8) (o : m.old = 0) (b : 1 <= m.ballot /\ m.ballot <= 1099511627776) : k B (text m) = 8 /\ zai B (text m) = (⟨num m.ballot ++ num m.old, 0⟩, 0) /\ zae B (text m) = (⟨num m.ballot ++ num m.old, 0⟩, 0) /\ zaf B (text m) = (⟨num m.old, 0⟩, m.ballot.toNat) /\ stOld B (text m) = (⟨[], 0⟩, m.old.toNat) /\ stIs B (text m) = (⟨[], 0⟩, false) /\ zal B (text m) = (⟨[], 0⟩, []) := by
 obtain ⟨h1, h2, h3, h4, h5⟩ := za5 h
 obtain ⟨hk0, _, _, _, hT⟩ := zav hB (by omega) h
 obtain ⟨b1, b2, b3, b4, b5, b6, b7, b8, x1, x3, x8, x9⟩ := hB
 have hk : k B (text m) = 8 := by omega
 have hp : parts m = num m.ballot ++ num m.old := by
  unfold parts
  rw [if_neg (by omega)]
  rw [if_neg (by omega)]
  rw [if_neg (by omega)]
  rw [if_neg (by omega)]
  rw [if_neg (by omega)]
  rw [if_pos (by omega)]
  rw [if_pos o, o]
  rw [show num 0 = [0] from by unfold num; exact Pack.num_low (by decide)]
 rw [hp] at hT
 have r_shard : zai B (text m) = (⟨num m.ballot ++ num m.old, 0⟩, 0) := by unfold zai zak; rw [hT]; simp only [hk]; rfl
 have r_number : zae B (text m) = (⟨num m.ballot ++ num m.old, 0⟩, 0) := by unfold zae zak; rw [r_shard]; simp only [hk]; rfl
 have r_ballot : zaf B (text m) = (⟨num m.old, 0⟩, m.ballot.toNat) := by unfold zaf zak; rw [r_number]; simp only [hk]; exact zch (by omega) (by omega) (by omega) _
 have r_old : stOld B (text m) = (⟨[], 0⟩, m.old.toNat) := by unfold stOld zak; rw [r_ballot]; simp only [hk]; exact zkx (by omega) (by omega) (by omega)
 have r_is : stIs B (text m) = (⟨[], 0⟩, false) := by unfold stIs za7; rw [r_old]; simp only [hk]; rfl
 have r_text : zal B (text m) = (⟨[], 0⟩, []) := by
  have ho : (stOld B (text m)).2 = 0 := by rw [r_old]; show m.old.toNat = 0; omega
  unfold zal za3
  rw [r_is]
  simp only [hk, ho]
  rfl
 exact ⟨hk, r_shard, r_number, r_ballot, r_old, r_is, r_text⟩
theorem zn7 {B : Bds} (hB : B.Ok) {m : M} (h : headOk m = true) (k1 : m.kind = 8) (r : Term.right m.conf = true) (o : 1 <= m.old /\ m.old <= 1099511627776) (b : 1 <= m.ballot /\ m.ballot <= 1099511627776) : k B (text m) = 8 /\ zai B (text m) = (⟨num m.ballot ++ (num m.old ++ textOf (Term.enc m.conf)), 0⟩, 0) /\ zae B (text m) = (⟨num m.ballot ++ (num m.old ++ textOf (Term.enc m.conf)), 0⟩, 0) /\ zaf B (text m) = (⟨num m.old ++ textOf (Term.enc m.conf), 0⟩, m.ballot.toNat) /\ stOld B (text m) = (⟨textOf (Term.enc m.conf), 0⟩, m.old.toNat) /\ stIs B (text m) = (⟨textOf (Term.enc m.conf), 0⟩, false) /\ zal B (text m) = (⟨[], 0⟩, Term.enc m.conf) := by
 obtain ⟨h1, h2, h3, h4, h5⟩ := za5 h
 have hl := Term.enc_le r
 obtain ⟨hk0, _, _, _, hT⟩ := zav hB (by omega) h
 obtain ⟨b1, b2, b3, b4, b5, b6, b7, b8, x1, x3, x8, x9⟩ := hB
 have hk : k B (text m) = 8 := by omega
 have hp : parts m = num m.ballot ++ (num m.old ++ textOf (Term.enc m.conf)) := by
  unfold parts
  rw [if_neg (by omega)]
  rw [if_neg (by omega)]
  rw [if_neg (by omega)]
  rw [if_neg (by omega)]
  rw [if_neg (by omega)]
  rw [if_pos (by omega)]
  rw [if_neg (by omega)]
 rw [hp] at hT
 have r_shard : zai B (text m) = (⟨num m.ballot ++ (num m.old ++ textOf (Term.enc m.conf)), 0⟩, 0) := by unfold zai zak; rw [hT]; simp only [hk]; rfl
 have r_number : zae B (text m) = (⟨num m.ballot ++ (num m.old ++ textOf (Term.enc m.conf)), 0⟩, 0) := by unfold zae zak; rw [r_shard]; simp only [hk]; rfl
 have r_ballot : zaf B (text m) = (⟨num m.old ++ textOf (Term.enc m.conf), 0⟩, m.ballot.toNat) := by unfold zaf zak; rw [r_number]; simp only [hk]; exact zch (by omega) (by omega) (by omega) _
 have r_old : stOld B (text m) = (⟨textOf (Term.enc m.conf), 0⟩, m.old.toNat) := by unfold stOld zak; rw [r_ballot]; simp only [hk]; exact zch (by omega) (by omega) (by omega) _
 have r_is : stIs B (text m) = (⟨textOf (Term.enc m.conf), 0⟩, false) := by unfold stIs za7; rw [r_old]; simp only [hk]; rfl
 have r_text : zal B (text m) = (⟨[], 0⟩, Term.enc m.conf) := by
  have ho : (stOld B (text m)).2 ≠ 0 := by rw [r_old]; show m.old.toNat ≠ 0; omega
  have hc : decide (k B (text m) = 1 \/ k B (text m) = 3 \/ k B (text m) = 9 \/ (k B (text m) = 8 /\ (stOld B (text m)).2 ≠ 0)) = true := decide_eq_true (.inr (.inr (.inr ⟨hk, ho⟩)))
  unfold zal za3
  rw [r_is, if_pos hc, hk]
  exact zhz (x8 _ r) (by omega)
 exact ⟨hk, r_shard, r_number, r_ballot, r_old, r_is, r_text⟩
theorem zph {B : Bds} (hB : B.Ok) {m : M} (h : headOk m = true) (k1 : m.kind = 9) (r : Term.right m.conf = true) (b : 1 <= m.ballot /\ m.ballot <= 1099511627776) : k B (text m) = 9 /\ zai B (text m) = (⟨num m.ballot ++ textOf (Term.enc m.conf), 0⟩, 0) /\ zae B (text m) = (⟨num m.ballot ++ textOf (Term.enc m.conf), 0⟩, 0) /\ zaf B (text m) = (⟨textOf (Term.enc m.conf), 0⟩, m.ballot.toNat) /\ stOld B (text m) = (⟨textOf (Term.enc m.conf), 0⟩, 0) /\ stIs B (text m) = (⟨textOf (Term.enc m.conf), 0⟩, false) /\ zal B (text m) = (⟨[], 0⟩, Term.enc m.conf) := by
 obtain ⟨h1, h2, h3, h4, h5⟩ := za5 h
 have hl := Term.enc_le r
 obtain ⟨hk0, _, _, _, hT⟩ := zav hB (by omega) h
 obtain ⟨b1, b2, b3, b4, b5, b6, b7, b8, x1, x3, x8, x9⟩ := hB
 have hk : k B (text m) = 9 := by omega
 have hp : parts m = num m.ballot ++ textOf (Term.enc m.conf) := by
  unfold parts
  rw [if_neg (by omega)]
  rw [if_neg (by omega)]
  rw [if_neg (by omega)]
  rw [if_neg (by omega)]
  rw [if_neg (by omega)]
  rw [if_neg (by omega)]
  rw [if_pos (by omega)]
 rw [hp] at hT
 have r_shard : zai B (text m) = (⟨num m.ballot ++ textOf (Term.enc m.conf), 0⟩, 0) := by unfold zai zak; rw [hT]; simp only [hk]; rfl
 have r_number : zae B (text m) = (⟨num m.ballot ++ textOf (Term.enc m.conf), 0⟩, 0) := by unfold zae zak; rw [r_shard]; simp only [hk]; rfl
 have r_ballot : zaf B (text m) = (⟨textOf (Term.enc m.conf), 0⟩, m.ballot.toNat) := by unfold zaf zak; rw [r_number]; simp only [hk]; exact zch (by omega) (by omega) (by omega) _
 have r_old : stOld B (text m) = (⟨textOf (Term.enc m.conf), 0⟩, 0) := by unfold stOld zak; rw [r_ballot]; simp only [hk]; rfl
 have r_is : stIs B (text m) = (⟨textOf (Term.enc m.conf), 0⟩, false) := by unfold stIs za7; rw [r_old]; simp only [hk]; rfl
 have r_text : zal B (text m) = (⟨[], 0⟩, Term.enc m.conf) := by unfold zal za3; rw [r_is]; simp only [hk]; exact zhz (x9 _ r) (by omega)
 exact ⟨hk, r_shard, r_number, r_ballot, r_old, r_is, r_text⟩
theorem zkz {B : Bds} (hB : B.Ok) {m : M} (h : headOk m = true) (k1 : m.kind = 10)  (b : 1 <= m.ballot /\ m.ballot <= 1099511627776) : k B (text m) = 10 /\ zai B (text m) = (⟨num m.ballot ++ zas m.is, 0⟩, 0) /\ zae B (text m) = (⟨num m.ballot ++ zas m.is, 0⟩, 0) /\ zaf B (text m) = (⟨zas m.is, 0⟩, m.ballot.toNat) /\ stOld B (text m) = (⟨zas m.is, 0⟩, 0) /\ stIs B (text m) = (⟨[], 0⟩, m.is) /\ zal B (text m) = (⟨[], 0⟩, []) := by
 obtain ⟨h1, h2, h3, h4, h5⟩ := za5 h
 obtain ⟨hk0, _, _, _, hT⟩ := zav hB (by omega) h
 obtain ⟨b1, b2, b3, b4, b5, b6, b7, b8, x1, x3, x8, x9⟩ := hB
 have hk : k B (text m) = 10 := by omega
 have hp : parts m = num m.ballot ++ zas m.is := by
  unfold parts
  rw [if_neg (by omega)]
  rw [if_neg (by omega)]
  rw [if_neg (by omega)]
  rw [if_neg (by omega)]
  rw [if_neg (by omega)]
  rw [if_neg (by omega)]
  rw [if_neg (by omega)]
  rw [if_pos (by omega)]
 rw [hp] at hT
 have r_shard : zai B (text m) = (⟨num m.ballot ++ zas m.is, 0⟩, 0) := by unfold zai zak; rw [hT]; simp only [hk]; rfl
 have r_number : zae B (text m) = (⟨num m.ballot ++ zas m.is, 0⟩, 0) := by unfold zae zak; rw [r_shard]; simp only [hk]; rfl
 have r_ballot : zaf B (text m) = (⟨zas m.is, 0⟩, m.ballot.toNat) := by unfold zaf zak; rw [r_number]; simp only [hk]; exact zch (by omega) (by omega) (by omega) _
 have r_old : stOld B (text m) = (⟨zas m.is, 0⟩, 0) := by unfold stOld zak; rw [r_ballot]; simp only [hk]; rfl
 have r_is : stIs B (text m) = (⟨[], 0⟩, m.is) := by unfold stIs za7; rw [r_old]; simp only [hk]; exact zgu _
 have r_text : zal B (text m) = (⟨[], 0⟩, []) := by unfold zal za3; rw [r_is]; simp only [hk]; rfl
 exact ⟨hk, r_shard, r_number, r_ballot, r_old, r_is, r_text⟩
theorem zbl {B : Bds} (hB : B.Ok) {vd : List UInt8 -> List Int} (hv : ∀ v, Vec.right v = true -> vd (Ent.vecBytes v) = v) {m : M} (h : right m = true) : (zal B (text m)).1 = ⟨[], 0⟩ /\ read B vd (text m) = m := by
 obtain ⟨hh, hi⟩ := zff h
 obtain ⟨h1, h2, h3, h4, h5⟩ := za5 hh
 obtain ⟨q1, q2, q3, q4, _⟩ := zav hB (by have := kind_in h; omega) hh
 cases hi with
 | one k1 b o i r e c =>
  obtain ⟨z0, z1, z2, z3, z4, z5, z6⟩ := zpu hB hh k1 r
  refine ⟨by rw [z6], ext q1 q2 q3 q4 ?_ ?_ ?_ ?_ ?_ ?_ ?_ ?_⟩
  . show ((zai B (text m)).2 : Int) = m.shard; rw [z1]; simp only []; omega
  . show ((zae B (text m)).2 : Int) = m.number; rw [z2]; simp only []; omega
  . show (stIs B (text m)).2 = m.is; rw [z5]; exact i.symm
  . show recOf B (text m) = m.reco; unfold recOf; rw [if_pos z0, z6]; simp only []; rw [Rec.dec_enc r]; rfl
  . show entOf B vd (text m) = m.ent; unfold entOf; rw [if_neg (by omega)]; exact e.symm
  . show ((zaf B (text m)).2 : Int) = m.ballot; rw [z3]; simp only []; omega
  . show ((stOld B (text m)).2 : Int) = m.old; rw [z4]; simp only []; omega
  . show zau B (text m) = m.conf; unfold zau; rw [if_neg (by omega)]; exact c.symm
 | two k1 b o i r e c =>
  obtain ⟨z0, z1, z2, z3, z4, z5, z6⟩ := zqh hB hh k1
  refine ⟨by rw [z6], ext q1 q2 q3 q4 ?_ ?_ ?_ ?_ ?_ ?_ ?_ ?_⟩
  . show ((zai B (text m)).2 : Int) = m.shard; rw [z1]; simp only []; omega
  . show ((zae B (text m)).2 : Int) = m.number; rw [z2]; simp only []; omega
  . show (stIs B (text m)).2 = m.is; rw [z5]; exact i.symm
  . show recOf B (text m) = m.reco; unfold recOf; rw [if_neg (by omega)]; exact r.symm
  . show entOf B vd (text m) = m.ent; unfold entOf; rw [if_neg (by omega)]; exact e.symm
  . show ((zaf B (text m)).2 : Int) = m.ballot; rw [z3]; simp only []; omega
  . show ((stOld B (text m)).2 : Int) = m.old; rw [z4]; simp only []; omega
  . show zau B (text m) = m.conf; unfold zau; rw [if_neg (by omega)]; exact c.symm
 | three k1 b o i s n r e c =>
  obtain ⟨z0, z1, z2, z3, z4, z5, z6⟩ := zpc hB hh k1 e
  refine ⟨by rw [z6], ext q1 q2 q3 q4 ?_ ?_ ?_ ?_ ?_ ?_ ?_ ?_⟩
  . show ((zai B (text m)).2 : Int) = m.shard; rw [z1]; simp only []; omega
  . show ((zae B (text m)).2 : Int) = m.number; rw [z2]; simp only []; omega
  . show (stIs B (text m)).2 = m.is; rw [z5]; exact i.symm
  . show recOf B (text m) = m.reco; unfold recOf; rw [if_neg (by omega)]; exact r.symm
  . show entOf B vd (text m) = m.ent; unfold entOf; rw [if_pos z0, z6]; simp only []; rw [Ent.dec_enc hv e]; rfl
  . show ((zaf B (text m)).2 : Int) = m.ballot; rw [z3]; simp only []; omega
  . show ((stOld B (text m)).2 : Int) = m.old; rw [z4]; simp only []; omega
  . show zau B (text m) = m.conf; unfold zau; rw [if_neg (by omega)]; exact c.symm
 | four k1 b o s r e c =>
  rcases k1 with k1 | k1
  . obtain ⟨z0, z1, z2, z3, z4, z5, z6⟩ := zoo hB hh k1
    refine ⟨by rw [z6], ext q1 q2 q3 q4 ?_ ?_ ?_ ?_ ?_ ?_ ?_ ?_⟩
    . show ((zai B (text m)).2 : Int) = m.shard; rw [z1]; simp only []; omega
    . show ((zae B (text m)).2 : Int) = m.number; rw [z2]; simp only []; omega
    . show (stIs B (text m)).2 = m.is; rw [z5]
    . show recOf B (text m) = m.reco; unfold recOf; rw [if_neg (by omega)]; exact r.symm
    . show entOf B vd (text m) = m.ent; unfold entOf; rw [if_neg (by omega)]; exact e.symm
    . show ((zaf B (text m)).2 : Int) = m.ballot; rw [z3]; simp only []; omega
    . show ((stOld B (text m)).2 : Int) = m.old; rw [z4]; simp only []; omega
    . show zau B (text m) = m.conf; unfold zau; rw [if_neg (by omega)]; exact c.symm
  . obtain ⟨z0, z1, z2, z3, z4, z5, z6⟩ := zn9 hB hh k1
    refine ⟨by rw [z6], ext q1 q2 q3 q4 ?_ ?_ ?_ ?_ ?_ ?_ ?_ ?_⟩
    . show ((zai B (text m)).2 : Int) = m.shard; rw [z1]; simp only []; omega
    . show ((zae B (text m)).2 : Int) = m.number; rw [z2]; simp only []; omega
    . show (stIs B (text m)).2 = m.is; rw [z5]
    . show recOf B (text m) = m.reco; unfold recOf; rw [if_neg (by omega)]; exact r.symm
    . show entOf B vd (text m) = m.ent; unfold entOf; rw [if_neg (by omega)]; exact e.symm
    . show ((zaf B (text m)).2 : Int) = m.ballot; rw [z3]; simp only []; omega
    . show ((stOld B (text m)).2 : Int) = m.old; rw [z4]; simp only []; omega
    . show zau B (text m) = m.conf; unfold zau; rw [if_neg (by omega)]; exact c.symm
 | five k1 b o i s n r e c =>
  obtain ⟨z0, z1, z2, z3, z4, z5, z6⟩ := zn8 hB hh k1
  refine ⟨by rw [z6], ext q1 q2 q3 q4 ?_ ?_ ?_ ?_ ?_ ?_ ?_ ?_⟩
  . show ((zai B (text m)).2 : Int) = m.shard; rw [z1]; simp only []; omega
  . show ((zae B (text m)).2 : Int) = m.number; rw [z2]; simp only []; omega
  . show (stIs B (text m)).2 = m.is; rw [z5]; exact i.symm
  . show recOf B (text m) = m.reco; unfold recOf; rw [if_neg (by omega)]; exact r.symm
  . show entOf B vd (text m) = m.ent; unfold entOf; rw [if_neg (by omega)]; exact e.symm
  . show ((zaf B (text m)).2 : Int) = m.ballot; rw [z3]; simp only []; omega
  . show ((stOld B (text m)).2 : Int) = m.old; rw [z4]; simp only []; omega
  . show zau B (text m) = m.conf; unfold zau; rw [if_neg (by omega)]; exact c.symm
 | seven k1 b o i s n r e c =>
  obtain ⟨z0, z1, z2, z3, z4, z5, z6⟩ := zpl hB hh k1 b
  refine ⟨by rw [z6], ext q1 q2 q3 q4 ?_ ?_ ?_ ?_ ?_ ?_ ?_ ?_⟩
  . show ((zai B (text m)).2 : Int) = m.shard; rw [z1]; simp only []; omega
  . show ((zae B (text m)).2 : Int) = m.number; rw [z2]; simp only []; omega
  . show (stIs B (text m)).2 = m.is; rw [z5]; exact i.symm
  . show recOf B (text m) = m.reco; unfold recOf; rw [if_neg (by omega)]; exact r.symm
  . show entOf B vd (text m) = m.ent; unfold entOf; rw [if_neg (by omega)]; exact e.symm
  . show ((zaf B (text m)).2 : Int) = m.ballot; rw [z3]; simp only []; omega
  . show ((stOld B (text m)).2 : Int) = m.old; rw [z4]; simp only []; omega
  . show zau B (text m) = m.conf; unfold zau; rw [if_neg (by omega)]; exact c.symm
 | eight0 k1 b o i s n r e c =>
  obtain ⟨z0, z1, z2, z3, z4, z5, z6⟩ := zkc hB hh k1 o b
  refine ⟨by rw [z6], ext q1 q2 q3 q4 ?_ ?_ ?_ ?_ ?_ ?_ ?_ ?_⟩
  . show ((zai B (text m)).2 : Int) = m.shard; rw [z1]; simp only []; omega
  . show ((zae B (text m)).2 : Int) = m.number; rw [z2]; simp only []; omega
  . show (stIs B (text m)).2 = m.is; rw [z5]; exact i.symm
  . show recOf B (text m) = m.reco; unfold recOf; rw [if_neg (by omega)]; exact r.symm
  . show entOf B vd (text m) = m.ent; unfold entOf; rw [if_neg (by omega)]; exact e.symm
  . show ((zaf B (text m)).2 : Int) = m.ballot; rw [z3]; simp only []; omega
  . show ((stOld B (text m)).2 : Int) = m.old; rw [z4]; simp only []; omega
  . show zau B (text m) = m.conf; unfold zau; rw [if_neg (by rw [z4]; show ¬ (k B (text m) = 9 \/ (k B (text m) = 8 /\ m.old.toNat ≠ 0)); omega)]; exact c.symm
 | eight k1 b o i s n r e c t =>
  obtain ⟨z0, z1, z2, z3, z4, z5, z6⟩ := zn7 hB hh k1 c o b
  refine ⟨by rw [z6], ext q1 q2 q3 q4 ?_ ?_ ?_ ?_ ?_ ?_ ?_ ?_⟩
  . show ((zai B (text m)).2 : Int) = m.shard; rw [z1]; simp only []; omega
  . show ((zae B (text m)).2 : Int) = m.number; rw [z2]; simp only []; omega
  . show (stIs B (text m)).2 = m.is; rw [z5]; exact i.symm
  . show recOf B (text m) = m.reco; unfold recOf; rw [if_neg (by omega)]; exact r.symm
  . show entOf B vd (text m) = m.ent; unfold entOf; rw [if_neg (by omega)]; exact e.symm
  . show ((zaf B (text m)).2 : Int) = m.ballot; rw [z3]; simp only []; omega
  . show ((stOld B (text m)).2 : Int) = m.old; rw [z4]; simp only []; omega
  . show zau B (text m) = m.conf; unfold zau; rw [if_pos (.inr ⟨z0, by rw [z4]; show m.old.toNat ≠ 0; omega⟩), z6]; simp only []; rw [Term.dec_enc c]; rfl
 | nine k1 b o i s n r e c t =>
  obtain ⟨z0, z1, z2, z3, z4, z5, z6⟩ := zph hB hh k1 c b
  refine ⟨by rw [z6], ext q1 q2 q3 q4 ?_ ?_ ?_ ?_ ?_ ?_ ?_ ?_⟩
  . show ((zai B (text m)).2 : Int) = m.shard; rw [z1]; simp only []; omega
  . show ((zae B (text m)).2 : Int) = m.number; rw [z2]; simp only []; omega
  . show (stIs B (text m)).2 = m.is; rw [z5]; exact i.symm
  . show recOf B (text m) = m.reco; unfold recOf; rw [if_neg (by omega)]; exact r.symm
  . show entOf B vd (text m) = m.ent; unfold entOf; rw [if_neg (by omega)]; exact e.symm
  . show ((zaf B (text m)).2 : Int) = m.ballot; rw [z3]; simp only []; omega
  . show ((stOld B (text m)).2 : Int) = m.old; rw [z4]; simp only []; omega
  . show zau B (text m) = m.conf; unfold zau; rw [if_pos (.inl z0), z6]; simp only []; rw [Term.dec_enc c]; rfl
 | ten k1 b o s n r e c =>
  obtain ⟨z0, z1, z2, z3, z4, z5, z6⟩ := zkz hB hh k1 b
  refine ⟨by rw [z6], ext q1 q2 q3 q4 ?_ ?_ ?_ ?_ ?_ ?_ ?_ ?_⟩
  . show ((zai B (text m)).2 : Int) = m.shard; rw [z1]; simp only []; omega
  . show ((zae B (text m)).2 : Int) = m.number; rw [z2]; simp only []; omega
  . show (stIs B (text m)).2 = m.is; rw [z5]
  . show recOf B (text m) = m.reco; unfold recOf; rw [if_neg (by omega)]; exact r.symm
  . show entOf B vd (text m) = m.ent; unfold entOf; rw [if_neg (by omega)]; exact e.symm
  . show ((zaf B (text m)).2 : Int) = m.ballot; rw [z3]; simp only []; omega
  . show ((stOld B (text m)).2 : Int) = m.old; rw [z4]; simp only []; omega
  . show zau B (text m) = m.conf; unfold zau; rw [if_neg (by omega)]; exact c.symm
theorem znr {s : Pack.St} (h : s.bool.1.err = 0) : s.err = 0 /\ s.left = zas s.bool.2 ++ s.bool.1.left := by
 unfold Pack.St.bool at h ⊢
 split at h
 . rename_i hl
   exfalso
   by_cases he : s.err = 0
   . simp [Pack.St.fail, he] at h
   . simp [Pack.St.fail, he] at h
 . rename_i b l hl
   split at h
   . exfalso
     by_cases he : s.err = 0
     . simp [Pack.St.fail, he] at h
     . simp [Pack.St.fail, he] at h
   . rename_i hb
     rw [hl]
     simp only at h ⊢
     rw [if_neg hb]
     simp only
     refine ⟨h, ?_⟩
     have : b = 0 \/ b = 1 := by
      have h1 : b.toNat = 0 \/ b.toNat = 1 := by omega
      rcases h1 with h1 | h1
      . exact .inl (UInt8.toNat_inj.1 h1)
      . exact .inr (UInt8.toNat_inj.1 h1)
     rcases this with rfl | rfl <;> rfl
theorem oN {c : Bool} {most : Int} {s : Pack.St} (h : (zak c most s).1.err = 0) : s.err = 0 /\ s.left = (if c then Pack.num (zak c most s).2 else []) ++ (zak c most s).1.left := by
 cases c with
 | false => exact ⟨h, rfl⟩
 | true => exact ⟨Rec.num_err h, Rec.num_left h⟩
theorem oB {c : Bool} {s : Pack.St} (h : (za7 c s).1.err = 0) : s.err = 0 /\ s.left = (if c then zas (za7 c s).2 else []) ++ (za7 c s).1.left := by
 cases c with
 | false => exact ⟨h, rfl⟩
 | true => exact znr h
theorem oT {c : Bool} {most : Int} {s : Pack.St} (h : (za3 c most s).1.err = 0) : s.err = 0 /\ s.left = (if c then textOf (za3 c most s).2 else []) ++ (za3 c most s).1.left := by
 cases c with
 | false => exact ⟨h, rfl⟩
 | true =>
  refine ⟨Rec.num_err (Rec.text_err h), ?_⟩
  have := Rec.text_left h
  rw [this]
  show _ = (Pack.num _ ++ _) ++ _
  rw [List.append_assoc]
  rfl
theorem zqo {B : Bds} {l : List UInt8} (h : (zal B l).1.done = 0) :
 l = Pack.num (k B l) ++ (Pack.num (stS B l).2 ++ (Pack.num (stD B l).2 ++ (Pack.num (stT B l).2 ++
  ((if decide (k B l = 1 \/ k B l = 2) then Pack.num (zai B l).2 else []) ++
  ((if decide (k B l = 1 \/ k B l = 2 \/ k B l = 4 \/ k B l = 6) then Pack.num (zae B l).2 else []) ++
  ((if decide (7 <= k B l /\ k B l <= 10) then Pack.num (zaf B l).2 else []) ++
  ((if decide (k B l = 8) then Pack.num (stOld B l).2 else []) ++
  ((if decide (k B l = 4 \/ k B l = 6 \/ k B l = 10) then zas (stIs B l).2 else []) ++
  (if decide (k B l = 1 \/ k B l = 3 \/ k B l = 9 \/ (k B l = 8 /\ (stOld B l).2 ≠ 0)) then textOf (zal B l).2 else []))))))))) := by
 obtain ⟨d1, d2⟩ := Rec.done_zero h
 obtain ⟨e1, l1⟩ := oT (s := (stIs B l).1) d2
 obtain ⟨e2, l2⟩ := oB (s := (stOld B l).1) e1
 obtain ⟨e3, l3⟩ := oN (s := (zaf B l).1) e2
 obtain ⟨e4, l4⟩ := oN (s := (zae B l).1) e3
 obtain ⟨e5, l5⟩ := oN (s := (zai B l).1) e4
 obtain ⟨e6, l6⟩ := oN (s := (stT B l).1) e5
 have e7 : (stD B l).1.err = 0 := Rec.num_err (most := B.t) e6
 have l7 : (stD B l).1.left = Pack.num (stT B l).2 ++ (stT B l).1.left := Rec.num_left (most := B.t) e6
 have e8 : (stS B l).1.err = 0 := Rec.num_err (most := B.d) e7
 have l8 : (stS B l).1.left = Pack.num (stD B l).2 ++ (stD B l).1.left := Rec.num_left (most := B.d) e7
 have e9 : (stK B l).1.err = 0 := Rec.num_err (most := B.s) e8
 have l9 : (stK B l).1.left = Pack.num (stS B l).2 ++ (stS B l).1.left := Rec.num_left (most := B.s) e8
 have l0 : l = Pack.num (k B l) ++ (stK B l).1.left := Rec.num_left (s := ⟨l, 0⟩) (most := B.k) e9
 have d0 : (zal B l).1.left = [] := d1
 have L1 : (stIs B l).1.left = (if decide (k B l = 1 \/ k B l = 3 \/ k B l = 9 \/ (k B l = 8 /\ (stOld B l).2 ≠ 0)) then textOf (zal B l).2 else []) := by
  refine l1.trans ?_
  show _ ++ (zal B l).1.left = _
  rw [d0, List.append_nil]
  rfl
 have L2 : (stOld B l).1.left = _ := l2.trans (congrArg _ L1)
 have L3 : (zaf B l).1.left = _ := l3.trans (congrArg _ L2)
 have L4 : (zae B l).1.left = _ := l4.trans (congrArg _ L3)
 have L5 : (zai B l).1.left = _ := l5.trans (congrArg _ L4)
 have L6 : (stT B l).1.left = _ := l6.trans (congrArg _ L5)
 exact l0.trans (congrArg _ (l9.trans (congrArg _ (l8.trans (congrArg _ (l7.trans (congrArg _ L6)))))))
theorem zql : Ent.right ent0 = false := by decide
theorem zp2 : Term.right conf0 = false := by decide
theorem zrm {t : List UInt8} (h : (Rec.dec t).isSome = true) : Rec.enc ((Rec.dec t).getD rec0) = t := by
 cases hd : Rec.dec t with
 | none => rw [hd] at h; cases h
 | some r => exact (Rec.enc_dec hd).2
def zot (B : Bds) (l : List UInt8) : Bool := !(decide (k B l = 1)) || (Rec.dec (zal B l).2).isSome
theorem zr3 {vd : List UInt8 -> List Int} {t : List UInt8} (h : Ent.right ((Ent.dec vd t).getD ent0) = true) : Ent.enc ((Ent.dec vd t).getD ent0) = t := by
 cases hd : Ent.dec vd t with
 | none => rw [hd] at h; rw [show (none : Option Ent.E).getD ent0 = ent0 from rfl, zql] at h; cases h
 | some r => exact (Ent.enc_dec hd).2
theorem zje {t : List UInt8} (h : Term.right ((Term.dec t).getD conf0) = true) : Term.enc ((Term.dec t).getD conf0) = t := by
 cases hd : Term.dec t with
 | none => rw [hd] at h; rw [show (none : Option Term.C).getD conf0 = conf0 from rfl, zp2] at h; cases h
 | some r => exact (Term.dec_iff.1 hd).2
theorem zh7 {B : Bds} {vd : List UInt8 -> List Int} {l : List UInt8} (h : (zal B l).1.done = 0) (hg : zot B l = true) (hr : right (read B vd l) = true) : text (read B vd l) = l := by
 obtain ⟨hh, hi⟩ := zff hr
 have hl := zqo h
 have ht : text (read B vd l) = Pack.num (k B l) ++ (Pack.num (stS B l).2 ++ (Pack.num (stD B l).2 ++ (Pack.num (stT B l).2 ++ parts (read B vd l)))) := rfl
 rw [ht]
 refine Eq.trans ?_ hl.symm
 refine congrArg _ (congrArg _ (congrArg _ (congrArg _ ?_)))
 have hK : (read B vd l).kind = (k B l : Int) := rfl
 have hSh : num (read B vd l).shard = Pack.num (zai B l).2 := rfl
 have hNu : num (read B vd l).number = Pack.num (zae B l).2 := rfl
 have hBa : num (read B vd l).ballot = Pack.num (zaf B l).2 := rfl
 have hOl : num (read B vd l).old = Pack.num (stOld B l).2 := rfl
 have hIs : (read B vd l).is = (stIs B l).2 := rfl
 have hOi : (read B vd l).old = ((stOld B l).2 : Int) := rfl
 have hRe : (read B vd l).reco = recOf B l := rfl
 have hEn : (read B vd l).ent = entOf B vd l := rfl
 have hCo : (read B vd l).conf = zau B l := rfl
 cases hi with
 | one k1 b o i r e c =>
  have z : k B l = 1 := by omega
  have hx : recOf B l = (Rec.dec (zal B l).2).getD rec0 := by unfold recOf; rw [if_pos z]
  unfold parts
  rw [if_pos k1, hSh, hNu, hRe, hx, zrm (by unfold zot at hg; rw [decide_eq_true z] at hg; simpa using hg)]
  simp [z]
 | two k1 b o i r e c =>
  have z : k B l = 2 := by omega
  unfold parts
  rw [if_neg (by omega), if_pos k1, hSh, hNu]
  simp [z]
 | three k1 b o i s n r e c =>
  have z : k B l = 3 := by omega
  have hx : entOf B vd l = (Ent.dec vd (zal B l).2).getD ent0 := by unfold entOf; rw [if_pos z]
  unfold parts
  rw [if_neg (by omega), if_neg (by omega), if_pos k1, hEn, hx, zr3 (by rw [<- hx, <- hEn]; exact e)]
  simp [z]
 | four k1 b o s r e c =>
  unfold parts
  rw [if_neg (by omega), if_neg (by omega), if_neg (by omega), if_pos k1, hNu, hIs]
  have z : k B l = 4 \/ k B l = 6 := by omega
  rcases z with z | z <;> simp [z]
 | five k1 b o i s n r e c =>
  have z : k B l = 5 := by omega
  unfold parts
  rw [if_neg (by omega), if_neg (by omega), if_neg (by omega), if_neg (by omega), if_neg (by omega), if_neg (by omega), if_neg (by omega), if_neg (by omega)]
  simp [z]
 | seven k1 b o i s n r e c =>
  have z : k B l = 7 := by omega
  unfold parts
  rw [if_neg (by omega), if_neg (by omega), if_neg (by omega), if_neg (by omega), if_pos k1, hBa]
  simp [z]
 | eight0 k1 b o i s n r e c =>
  have z : k B l = 8 := by omega
  have zo : (stOld B l).2 = 0 := by omega
  unfold parts
  rw [if_neg (by omega), if_neg (by omega), if_neg (by omega), if_neg (by omega), if_neg (by omega), if_pos k1, if_pos o, hBa]
  simp [z, zo, Pack.num_low]
 | eight k1 b o i s n r e c t =>
  have z : k B l = 8 := by omega
  have zo : (stOld B l).2 ≠ 0 := by omega
  have hx : zau B l = (Term.dec (zal B l).2).getD conf0 := by unfold zau; rw [if_pos (.inr ⟨z, zo⟩)]
  unfold parts
  rw [if_neg (by omega), if_neg (by omega), if_neg (by omega), if_neg (by omega), if_neg (by omega), if_pos k1, if_neg (by omega), hBa, hOl, hCo, hx, zje (by rw [<- hx, <- hCo]; exact c)]
  simp [z, zo]
 | nine k1 b o i s n r e c t =>
  have z : k B l = 9 := by omega
  have hx : zau B l = (Term.dec (zal B l).2).getD conf0 := by unfold zau; rw [if_pos (.inl z)]
  unfold parts
  rw [if_neg (by omega), if_neg (by omega), if_neg (by omega), if_neg (by omega), if_neg (by omega), if_neg (by omega), if_pos k1, hBa, hCo, hx, zje (by rw [<- hx, <- hCo]; exact c)]
  simp [z]
 | ten k1 b o s n r e c =>
  have z : k B l = 10 := by omega
  unfold parts
  rw [if_neg (by omega), if_neg (by omega), if_neg (by omega), if_neg (by omega), if_neg (by omega), if_neg (by omega), if_neg (by omega), if_pos k1, hBa, hIs]
  simp [z]
def ok (B : Bds) (vd : List UInt8 -> List Int) (l : List UInt8) : Bool := ((zal B l).1.done == 0) && (zot B l && right (read B vd l))
theorem dec_cut {vd : List UInt8 -> List Int} {b : List UInt8} (hc : Crc.cutOf b = none) : dec vd b = none := by
 unfold dec
 rw [hc]
end By
def alike (a b : M) : Bool := ((a.kind == b.kind) && ((a.src == b.src) && ((a.dst == b.dst) && ((a.term == b.term) && ((a.shard == b.shard) && (a.number == b.number)))))) && (((a.is == b.is) && ((a.ballot == b.ballot) && (a.old == b.old))) && (Rec.same a.reco b.reco && (Ent.alike a.ent b.ent && Term.alike a.conf b.conf)))
theorem alike_iff (a b : M) : alike a b = true ↔ a = b := by
 unfold alike
 simp only [Bool.and_eq_true, beq_iff_eq, Rec.same_iff, Ent.alike_iff, Term.alike_iff]
 constructor
 . rintro ⟨⟨h1, h2, h3, h4, h5, h6⟩, ⟨h7, h8, h9⟩, h10, h11, h12⟩
   exact ext h1 h2 h3 h4 h5 h6 h7 h10 h11 h8 h9 h12
 . rintro rfl
   simp
theorem alike_self (a : M) : alike a a = true := (alike_iff a a).2 rfl
end Msg
end Go.Proofs.YtnoeconcpgdjlaaGreat
namespace Go.Proofs.YtnoeconcpgdjlaaGreat
set_option maxRecDepth 100000
set_option linter.unusedSimpArgs false
set_option linter.unusedVariables false
open Go.RowKit
def zag (m : Msg.M) (rt et sv dv : Value) : Array Value := #[.int .i64 m.kind, .int .i64 m.src, .int .i64 m.dst, .int .i64 m.term, .int .i64 m.shard, .int .i64 m.number, .bool m.is, .int .i64 m.reco.client, .int .i64 m.reco.number, rt, .string ⟨m.reco.data.toArray⟩, .int .i64 m.ent.number, .int .i64 m.ent.kind, et, .int .i64 m.ent.tag, .int .i64 m.ent.term, .int .i64 m.ent.pos, .int .i64 m.ballot, .int .i64 m.old, .int .i64 m.conf.term, sv, dv]
def IsMsg (w : World) (v : Value) (m : Msg.M) : Prop := ∃ rt et sv dv, v = .agg (zag m rt et sv dv) /\ Ints w rt m.reco.tags /\ Ints w et m.ent.cut /\ Ints w sv m.conf.seqs /\ IRows w dv m.conf.shards
theorem IsMsg.below {w w' : World} {v : Value} {m : Msg.M} (h : IsMsg w v m) (hb : Below w.heap.size w w') : IsMsg w' v m := by
 obtain ⟨rt, et, sv, dv, rfl, h1, h2, h3, h4⟩ := h
 exact ⟨rt, et, sv, dv, rfl, h1.below hb, h2.below hb, h3.below hb, h4.below hb⟩
theorem IsMsg.parts {w : World} {m : Msg.M} {rt et sv dv : Value} (h1 : Ints w rt m.reco.tags) (h2 : Ints w et m.ent.cut) (h3 : Ints w sv m.conf.seqs) (h4 : IRows w dv m.conf.shards) :
 IsRec w (.agg #[.int .i64 m.reco.client, .int .i64 m.reco.number, rt, .string ⟨m.reco.data.toArray⟩]) m.reco /\ IsEnt w (.agg #[.int .i64 m.ent.number, .int .i64 m.ent.kind, et, .int .i64 m.ent.tag, .int .i64 m.ent.term, .int .i64 m.ent.pos]) m.ent /\ IsConf w (.agg #[.int .i64 m.conf.term, sv, dv]) m.conf :=
 ⟨⟨rt, rfl, h1⟩, ⟨et, rfl, h2⟩, ⟨sv, dv, rfl, h3, h4⟩⟩
theorem IsMsg.shape {w : World} {v : Value} {m : Msg.M} (h : IsMsg w v m) : ∃ a0 n0 c0 a1 n1 c1 a2 n2 c2 a3 n3 c3, v = .agg (zag m (.slice a0 n0 c0) (.slice a1 n1 c1) (.slice a2 n2 c2) (.slice a3 n3 c3)) := by
 obtain ⟨rt, et, sv, dv, rfl, h1, h2, h3, h4⟩ := h
 obtain ⟨a0, c0, rfl, _⟩ := h1.open
 obtain ⟨a1, c1, rfl, _⟩ := h2.open
 obtain ⟨a2, c2, rfl, _⟩ := h3.open
 obtain ⟨a3, c3, rfl, _⟩ := h4.open
 exact ⟨_, _, _, _, _, _, _, _, _, _, _, _, rfl⟩
def MsgAt (T : TypeId) (w : World) (p : Nat) (m : Msg.M) (rt et sv dv : Value) : Prop := w.heap[p]? = some (.cells (zag m rt et sv dv) T (0, 0))
theorem MsgAt.new (T : TypeId) (w : World) (m : Msg.M) (rt et sv dv : Value) : MsgAt T (w.alloc (.cells (zag m rt et sv dv) T)) w.heap.size m rt et sv dv := heap_alloc_new w _
theorem MsgAt.lt {T : TypeId} {w : World} {p : Nat} {m : Msg.M} {rt et sv dv : Value} (h : MsgAt T w p m rt et sv dv) : p < w.heap.size := (Array.getElem?_eq_some_iff.1 h).1
theorem MsgAt.ext {T : TypeId} {w w' : World} {p : Nat} {m : Msg.M} {rt et sv dv : Value} (h : MsgAt T w p m rt et sv dv) (hE : Ext w w') : MsgAt T w' p m rt et sv dv := (hE.block p h.lt).trans h
theorem MsgAt.but {T : TypeId} {w w' : World} {p q : Nat} {m : Msg.M} {rt et sv dv : Value} (h : MsgAt T w p m rt et sv dv) (hB : But q w w') (hne : p ≠ q) : MsgAt T w' p m rt et sv dv := (hB.block p h.lt hne).trans h
theorem MsgAt.head {T : TypeId} {w : World} {p : Nat} {m : Msg.M} {rt et sv dv : Value} (h : MsgAt T w p m rt et sv dv) : w.cell? ⟨p, 0, none⟩ = some (.int .i64 m.kind) /\ w.cell? ⟨p, 1, none⟩ = some (.int .i64 m.src) /\ w.cell? ⟨p, 2, none⟩ = some (.int .i64 m.dst) /\ w.cell? ⟨p, 3, none⟩ = some (.int .i64 m.term) /\ w.cell? ⟨p, 4, none⟩ = some (.int .i64 m.shard) /\ w.cell? ⟨p, 5, none⟩ = some (.int .i64 m.number) /\ w.cell? ⟨p, 6, none⟩ = some (.bool m.is) :=
 ⟨zaa h 0, zaa h 1, zaa h 2, zaa h 3, zaa h 4, zaa h 5, zaa h 6⟩
theorem MsgAt.reco {T : TypeId} {w : World} {p : Nat} {m : Msg.M} {rt et sv dv : Value} (h : MsgAt T w p m rt et sv dv) : w.cell? ⟨p, 7, none⟩ = some (.int .i64 m.reco.client) /\ w.cell? ⟨p, 8, none⟩ = some (.int .i64 m.reco.number) /\ w.cell? ⟨p, 9, none⟩ = some rt /\ w.cell? ⟨p, 10, none⟩ = some (.string ⟨m.reco.data.toArray⟩) :=
 ⟨zaa h 7, zaa h 8, zaa h 9, zaa h 10⟩
theorem MsgAt.ent {T : TypeId} {w : World} {p : Nat} {m : Msg.M} {rt et sv dv : Value} (h : MsgAt T w p m rt et sv dv) : w.cell? ⟨p, 11, none⟩ = some (.int .i64 m.ent.number) /\ w.cell? ⟨p, 12, none⟩ = some (.int .i64 m.ent.kind) /\ w.cell? ⟨p, 13, none⟩ = some et /\ w.cell? ⟨p, 14, none⟩ = some (.int .i64 m.ent.tag) /\ w.cell? ⟨p, 15, none⟩ = some (.int .i64 m.ent.term) /\ w.cell? ⟨p, 16, none⟩ = some (.int .i64 m.ent.pos) :=
 ⟨zaa h 11, zaa h 12, zaa h 13, zaa h 14, zaa h 15, zaa h 16⟩
theorem MsgAt.votes {T : TypeId} {w : World} {p : Nat} {m : Msg.M} {rt et sv dv : Value} (h : MsgAt T w p m rt et sv dv) : w.cell? ⟨p, 17, none⟩ = some (.int .i64 m.ballot) /\ w.cell? ⟨p, 18, none⟩ = some (.int .i64 m.old) :=
 ⟨zaa h 17, zaa h 18⟩
theorem MsgAt.conf {T : TypeId} {w : World} {p : Nat} {m : Msg.M} {rt et sv dv : Value} (h : MsgAt T w p m rt et sv dv) : w.cell? ⟨p, 19, none⟩ = some (.int .i64 m.conf.term) /\ w.cell? ⟨p, 20, none⟩ = some sv /\ w.cell? ⟨p, 21, none⟩ = some dv :=
 ⟨zaa h 19, zaa h 20, zaa h 21⟩
def zg4 (k o : Int) : Int := if k = 1 then 67 else if k = 2 then 3 else if k = 3 then 4 else if k = 4 \/ k = 6 then 34 else if k = 8 then (if o = 0 then 24 else 152) else if k = 9 then 136 else if k = 7 then 8 else if k = 10 then 40 else 0
def mask (m : Msg.M) : Int := zg4 m.kind m.old
theorem zhi (w : World) (m : Msg.M) (rt et sv dv : Value) : (Instr.box 89 (.agg (zag m rt et sv dv))).run Tryz.prog w = .ok (.pointer (some ⟨w.heap.size, 0, none⟩)) (w.alloc (.cells (zag m rt et sv dv) 89)) := by kernel_rfl
set_option maxHeartbeats 4000000 in
theorem za8 (n a b : Int) (w : World) : Calls Tryz.prog 88 #[.int .i64 n, .int .i64 a, .int .i64 b] w fun e w' => e = .returned (.bool (decide (a <= n /\ n <= b))) /\ w = w' := by
 by_cases h0 : a <= n
 . by_cases h1 : n <= b
   . have e : decide (a <= n /\ n <= b) = true := by simp [h0, h1]
     rw [e]
     clear e
     go_enter Tryz.func88, Tryz.ntmps88
     go_wp2
     go_ret
     exact ⟨rfl, rfl⟩
   . have e : decide (a <= n /\ n <= b) = false := by simp [h1]
     rw [e]
     clear e
     go_enter Tryz.func88, Tryz.ntmps88
     go_wp2
     go_ret
     exact ⟨rfl, rfl⟩
 . have e : decide (a <= n /\ n <= b) = false := by simp [h0]
   rw [e]
   clear e
   go_enter Tryz.func88, Tryz.ntmps88
   go_wp2
   go_ret
   exact ⟨rfl, rfl⟩
theorem zbu (n : Int) (w : World) : Calls Tryz.prog 89 #[.int .i64 n] w fun e w' => e = .returned (.bool (decide (0 <= n /\ n <= 15))) /\ w = w' := by
 go_enter Tryz.func89, Tryz.ntmps89
 go_wp2_with fail
 refine (za8 n 0 15 _).mono ?_
 rintro e w' ⟨rfl, rfl⟩
 go_wp2_with fail
 go_ret
 exact ⟨by simp, rfl⟩
theorem zmw (k : Int) : k = 1 \/ k = 2 \/ k = 3 \/ k = 4 \/ k = 6 \/ k = 8 \/ k = 9 \/ k = 7 \/ k = 10 \/ ((k == 1) = false /\ (k == 2) = false /\ (k == 3) = false /\ (k == 4) = false /\ (k == 6) = false /\ (k == 8) = false /\ (k == 9) = false /\ (k == 7) = false /\ (k == 10) = false) := by
 simp only [beq_eq_false_iff_ne]
 omega
theorem zrq {k o : Int} (h1 : (k == 1) = false) (h2 : (k == 2) = false) (h3 : (k == 3) = false) (h4 : (k == 4) = false) (h6 : (k == 6) = false) (h8 : (k == 8) = false) (h9 : (k == 9) = false) (h7 : (k == 7) = false) (h10 : (k == 10) = false) : zg4 k o = 0 := by
 simp only [beq_eq_false_iff_ne] at h1 h2 h3 h4 h6 h7 h8 h9 h10
 simp [zg4, h1, h2, h3, h4, h6, h7, h8, h9, h10]
theorem zsj {o : Int} (h : (o == 0) = false) : zg4 8 o = 152 := by
 rw [beq_eq_false_iff_ne] at h
 simp [zg4, h]
set_option maxHeartbeats 8000000 in
theorem zhy (m : Msg.M) (rt et sv dv : Value) (w : World) :
 Calls Tryz.prog 90 #[.agg (zag m rt et sv dv)] w fun e w' => e = .returned (.int .i64 (mask m)) /\ Ext w w' := by
 have hbx := zhi
 have hA := MsgAt.new 89 w m rt et sv dv
 have c0 := hA.head.1
 have c18 := hA.votes.2
 have hE : Ext w (w.alloc (.cells (zag m rt et sv dv) 89)) := Ext.alloc _ _
 unfold mask
 generalize hM : zag m rt et sv dv = M at *
 generalize m.kind = k at *
 generalize m.old = o at *
 clear hM hA
 rcases zmw k with rfl | rfl | rfl | rfl | rfl | rfl | rfl | rfl | rfl | ⟨k1, k2, k3, k4, k6, k8, k9, k7, k10⟩
 case inr.inr.inr.inr.inr.inl =>
  cases ho : (o == 0) with
  | true =>
   rw [beq_iff_eq] at ho
   subst ho
   go_enter Tryz.func90, Tryz.ntmps90
   go_wp2_with fail
   go_ret
   exact ⟨rfl, hE⟩
  | false =>
   have HM := Hi (zsj ho)
   go_enter Tryz.func90, Tryz.ntmps90
   go_wp2_with fail
   go_ret
   exact ⟨by rw [HM.out]; rfl, hE⟩
 case inr.inr.inr.inr.inr.inr.inr.inr.inr =>
  have HM := Hi (zrq (o := o) k1 k2 k3 k4 k6 k8 k9 k7 k10)
  go_enter Tryz.func90, Tryz.ntmps90
  go_wp2_with fail
  go_ret
  exact ⟨by rw [HM.out]; rfl, hE⟩
 all_goals
  go_enter Tryz.func90, Tryz.ntmps90
  go_wp2_with fail
  go_ret
  exact ⟨rfl, hE⟩
theorem zjo (v : Value) (m : Msg.M) (w : World) (hv : IsMsg w v m) :
 Calls Tryz.prog 90 #[v] w fun e w' => e = .returned (.int .i64 (mask m)) /\ Ext w w' := by
 obtain ⟨rt, et, sv, dv, rfl, _⟩ := hv
 exact zhy m rt et sv dv w
def zdu (h f : Int) : Bool := bits .and .i64 h f != 0
def eith (h f : Int) (r n : Bool) : Bool := cond (zdu h f) r n
def gate (p : Bool) (x : Value) : Value := match p with
 | true => x
 | false => undef
theorem zby (h f : Int) (r n : Bool) (b : Nat) (w : World) (hc : w.cell? ⟨b, 0, none⟩ = some (.int .i64 h)) :
 Calls Tryz.prog 91 #[.int .i64 f, .bool r, .bool n, .pointer (some ⟨b, 0, none⟩)] w fun e w' => e = .returned (.bool (eith h f r n)) /\ Ext w w' := by
 unfold eith zdu
 cases hb : (bits .and .i64 h f != 0) with
 | true =>
  go_enter Tryz.func91, Tryz.ntmps91
  go_wp2_with fail
  go_ret
  exact ⟨rfl, Ext.refl _⟩
 | false =>
  go_enter Tryz.func91, Tryz.ntmps91
  go_wp2_with fail
  go_ret
  exact ⟨rfl, Ext.refl _⟩
theorem zb7 (n a b : Int) (w : World) : Calls Tryz.prog 88 #[.int .i64 n, .int .i64 a, .int .i64 b] w fun e w' => e = .returned (.bool (decide (a <= n /\ n <= b))) /\ Ext w w' :=
 (za8 n a b w).mono fun _ _ h => ⟨h.1, h.2 ▸ Ext.refl _⟩
theorem ztn (w : World) : IsRec w (.agg #[.int .i64 0, .int .i64 0, .slice none 0 0, .string ⟨#[]⟩]) Msg.rec0 := ⟨_, rfl, ints0 w⟩
theorem zta (w : World) : IsEnt w (.agg #[.int .i64 0, .int .i64 0, .slice none 0 0, .int .i64 0, .int .i64 0, .int .i64 0]) Msg.ent0 := ⟨_, rfl, ints0 w⟩
theorem zss (w : World) : IsConf w (.agg #[.int .i64 0, .slice none 0 0, .slice none 0 0]) Msg.conf0 := ⟨_, _, rfl, ints0 w, zjl w⟩
theorem zs6 {w : World} {q i : Nat} {b : Bool} (h : w.cell? ⟨q, i, none⟩ = some (.bool b)) : (Instr.loadAt 4 (.pointer (some ⟨q, i, none⟩))).run Tryz.prog w = .ok (.bool b) w := by simp [go_sem, h]
theorem zs9 {w : World} {b o : Nat} {c n : Int} {u : Value} {s : ByteArray} (h : ∃ a n c, u = .slice a n c) (p0 : w.cell? ⟨b, o, none⟩ = some (.int .i64 c)) (p1 : w.cell? ⟨b, o + 1, none⟩ = some (.int .i64 n)) (p2 : w.cell? ⟨b, o + 2, none⟩ = some u) (p3 : w.cell? ⟨b, o + 3, none⟩ = some (.string s)) :
 (Instr.loadAt 44 (.pointer (some ⟨b, o, none⟩))).run Tryz.prog w = .ok (.agg #[.int .i64 c, .int .i64 n, u, .string s]) w := by
 obtain ⟨a, x, c, rfl⟩ := h
 simp [go_sem, p0, p1, p2, p3]
theorem ztm (T : TypeId) (hT : T = 84 \/ T = 46) {w : World} {b o : Nat} {n k t m p : Int} {u : Value} (h : ∃ a n c, u = .slice a n c) (p0 : w.cell? ⟨b, o, none⟩ = some (.int .i64 n)) (p1 : w.cell? ⟨b, o + 1, none⟩ = some (.int .i64 k)) (p2 : w.cell? ⟨b, o + 2, none⟩ = some u) (p3 : w.cell? ⟨b, o + 3, none⟩ = some (.int .i64 t)) (p4 : w.cell? ⟨b, o + 4, none⟩ = some (.int .i64 m)) (p5 : w.cell? ⟨b, o + 5, none⟩ = some (.int .i64 p)) :
 (Instr.loadAt T (.pointer (some ⟨b, o, none⟩))).run Tryz.prog w = .ok (.agg #[.int .i64 n, .int .i64 k, u, .int .i64 t, .int .i64 m, .int .i64 p]) w := by
 obtain ⟨a, x, c, rfl⟩ := h
 rcases hT with rfl | rfl
 . simp [go_sem, p0, p1, p2, p3, p4, p5]
 . simp [go_sem, p0, p1, p2, p3, p4, p5]
theorem zsd (T : TypeId) (hT : T = 33 \/ T = 25) {w : World} {b o : Nat} {n : Int} {u d : Value} (h : ∃ a n c, u = .slice a n c) (h2 : ∃ a n c, d = .slice a n c) (p0 : w.cell? ⟨b, o, none⟩ = some (.int .i64 n)) (p1 : w.cell? ⟨b, o + 1, none⟩ = some u) (p2 : w.cell? ⟨b, o + 2, none⟩ = some d) :
 (Instr.loadAt T (.pointer (some ⟨b, o, none⟩))).run Tryz.prog w = .ok (.agg #[.int .i64 n, u, d]) w := by
 obtain ⟨a, x, c, rfl⟩ := h
 obtain ⟨a2, x2, c2, rfl⟩ := h2
 rcases hT with rfl | rfl
 . simp [go_sem, p0, p1, p2]
 . simp [go_sem, p0, p1, p2]
structure Msg7 (T : TypeId) (w : World) (p : Nat) (m : Msg.M) (rt et sv dv : Value) : Prop where
 at_ : MsgAt T w p m rt et sv dv
 hr : Ints w rt m.reco.tags
 he : Ints w et m.ent.cut
 hs : Ints w sv m.conf.seqs
 hd : IRows w dv m.conf.shards
theorem Msg7.ext {T : TypeId} {w w' : World} {p : Nat} {m : Msg.M} {rt et sv dv : Value} (h : Msg7 T w p m rt et sv dv) (hE : Ext w w') : Msg7 T w' p m rt et sv dv :=
 ⟨h.at_.ext hE, h.hr.below hE, h.he.below hE, h.hs.below hE, h.hd.below hE⟩
theorem zan {w : World} {v : Value} {l : List Int} (h : Ints w v l) : ∃ a n c, v = .slice a n c := by
 obtain ⟨a, c, rfl, _⟩ := h.open
 exact ⟨_, _, _, rfl⟩
theorem zbw {w : World} {v : Value} {l : List (List Int)} (h : IRows w v l) : ∃ a n c, v = .slice a n c := by
 obtain ⟨a, c, rfl, _⟩ := h.open
 exact ⟨_, _, _, rfl⟩
theorem Msg7.ldRec {T : TypeId} {w : World} {p : Nat} {m : Msg.M} {rt et sv dv : Value} (h : Msg7 T w p m rt et sv dv) : (Instr.loadAt 44 (.pointer (some ⟨p, 7, none⟩))).run Tryz.prog w = .ok (.agg #[.int .i64 m.reco.client, .int .i64 m.reco.number, rt, .string ⟨m.reco.data.toArray⟩]) w :=
 zs9 (zan h.hr) h.at_.reco.1 h.at_.reco.2.1 h.at_.reco.2.2.1 h.at_.reco.2.2.2
theorem Msg7.ldEnt {T : TypeId} {w : World} {p : Nat} {m : Msg.M} {rt et sv dv : Value} (h : Msg7 T w p m rt et sv dv) (t : TypeId) (ht : t = 84 \/ t = 46) : (Instr.loadAt t (.pointer (some ⟨p, 11, none⟩))).run Tryz.prog w = .ok (.agg #[.int .i64 m.ent.number, .int .i64 m.ent.kind, et, .int .i64 m.ent.tag, .int .i64 m.ent.term, .int .i64 m.ent.pos]) w :=
 ztm t ht (zan h.he) h.at_.ent.1 h.at_.ent.2.1 h.at_.ent.2.2.1 h.at_.ent.2.2.2.1 h.at_.ent.2.2.2.2.1 h.at_.ent.2.2.2.2.2
theorem Msg7.ldConf {T : TypeId} {w : World} {p : Nat} {m : Msg.M} {rt et sv dv : Value} (h : Msg7 T w p m rt et sv dv) (t : TypeId) (ht : t = 33 \/ t = 25) : (Instr.loadAt t (.pointer (some ⟨p, 19, none⟩))).run Tryz.prog w = .ok (.agg #[.int .i64 m.conf.term, sv, dv]) w :=
 zsd t ht (zan h.hs) (zbw h.hd) h.at_.conf.1 h.at_.conf.2.1 h.at_.conf.2.2
theorem Msg7.isRec {T : TypeId} {w : World} {p : Nat} {m : Msg.M} {rt et sv dv : Value} (h : Msg7 T w p m rt et sv dv) : IsRec w (.agg #[.int .i64 m.reco.client, .int .i64 m.reco.number, rt, .string ⟨m.reco.data.toArray⟩]) m.reco := (IsMsg.parts (m := m) h.hr h.he h.hs h.hd).1
theorem Msg7.isEnt {T : TypeId} {w : World} {p : Nat} {m : Msg.M} {rt et sv dv : Value} (h : Msg7 T w p m rt et sv dv) : IsEnt w (.agg #[.int .i64 m.ent.number, .int .i64 m.ent.kind, et, .int .i64 m.ent.tag, .int .i64 m.ent.term, .int .i64 m.ent.pos]) m.ent := (IsMsg.parts (m := m) h.hr h.he h.hs h.hd).2.1
theorem Msg7.isConf {T : TypeId} {w : World} {p : Nat} {m : Msg.M} {rt et sv dv : Value} (h : Msg7 T w p m rt et sv dv) : IsConf w (.agg #[.int .i64 m.conf.term, sv, dv]) m.conf := (IsMsg.parts (m := m) h.hr h.he h.hs h.hd).2.2
theorem Msg7.isMsg {T : TypeId} {w : World} {p : Nat} {m : Msg.M} {rt et sv dv : Value} (h : Msg7 T w p m rt et sv dv) : IsMsg w (.agg (zag m rt et sv dv)) m := ⟨rt, et, sv, dv, rfl, h.hr, h.he, h.hs, h.hd⟩
theorem Msg7.range {T : TypeId} {w : World} {p : Nat} {m : Msg.M} {rt et sv dv : Value} (h : Msg7 T w p m rt et sv dv) : w.rangeAt p 0 (zag m rt et sv dv).toList := by
 have := World.rangeAt_of_block h.at_ 0 (zag m rt et sv dv).size
 rwa [Nat.zero_add, Array.extract_size] at this
theorem Msg7.ld {T : TypeId} {w : World} {p : Nat} {m : Msg.M} {rt et sv dv : Value} (h : Msg7 T w p m rt et sv dv) : (Instr.loadAt 89 (.pointer (some ⟨p, 0, none⟩))).run Tryz.prog w = .ok (.agg (zag m rt et sv dv)) w :=
 run_loadAt_mid w p 0 89 (zag m rt et sv dv).toList _ h.range Tryz.underlying89 rfl (by kernel_rfl)
theorem Msg7.new {w : World} {m : Msg.M} {rt et sv dv : Value} (T : TypeId) (h1 : Ints w rt m.reco.tags) (h2 : Ints w et m.ent.cut) (h3 : Ints w sv m.conf.seqs) (h4 : IRows w dv m.conf.shards) : Msg7 T (w.alloc (.cells (zag m rt et sv dv) T)) w.heap.size m rt et sv dv :=
 have hE := Ext.alloc w (.cells (zag m rt et sv dv) T)
 ⟨MsgAt.new _ w m rt et sv dv, h1.below hE, h2.below hE, h3.below hE, h4.below hE⟩
theorem IsMsg.opened {w : World} {v : Value} {m : Msg.M} (h : IsMsg w v m) : ∃ a0 n0 c0 a1 n1 c1 a2 n2 c2 a3 n3 c3, v = .agg (zag m (.slice a0 n0 c0) (.slice a1 n1 c1) (.slice a2 n2 c2) (.slice a3 n3 c3)) /\ Ints w (.slice a0 n0 c0) m.reco.tags /\ Ints w (.slice a1 n1 c1) m.ent.cut /\ Ints w (.slice a2 n2 c2) m.conf.seqs /\ IRows w (.slice a3 n3 c3) m.conf.shards := by
 obtain ⟨rt, et, sv, dv, rfl, h1, h2, h3, h4⟩ := h
 obtain ⟨a0, n0, c0, rfl⟩ := zan h1
 obtain ⟨a1, n1, c1, rfl⟩ := zan h2
 obtain ⟨a2, n2, c2, rfl⟩ := zan h3
 obtain ⟨a3, n3, c3, rfl⟩ := zbw h4
 exact ⟨_, _, _, _, _, _, _, _, _, _, _, _, rfl, h1, h2, h3, h4⟩
theorem Yield.callf {P : Program} {o : Oper} {ev : Operand -> Value} {w : World} {R : Value -> World -> Prop} {F : FuncId} {x : Operand} {caps : Array Value} {xs : Array Operand} {ats : Array TypeId} {fn : Func} {c : Code} (ho : o.op = .call { callee := .value x, args := xs, argTypes := ats }) (hx : ev x = .func (.func F) #[] caps) (hf : P.funcs[F]? = some fn) (hb : fn.body = some c)
 (hn : (fn.name == "runtime.NumGoroutine") = false) (h : Calls P F (xs.map ev ++ caps) w (fun e w' => ∃ v, e = .returned v /\ R v w')) : Yield P o ev w R := by
 unfold Yield execOp
 have hr : (do let d <- resolve ev { callee := .value x, args := xs, argTypes := ats } o.type; invoke d.target d.args).run P w = .ok (.enter F (xs.map ev ++ caps)) w := by
  have hn' : ¬ fn.name = "runtime.NumGoroutine" := by simpa using hn
  simp [resolve, hx, Deferred.ofValue, invoke, callFunc, hf, hn', hb]
 simp only [ho]
 rw [hr]
 exact h.mono fun e w' he => by obtain ⟨v, rfl, hv⟩ := he; exact hv
theorem MsgAt.range {T : TypeId} {w : World} {p : Nat} {m : Msg.M} {rt et sv dv : Value} (h : MsgAt T w p m rt et sv dv) : w.rangeAt p 0 (zag m rt et sv dv).toList := by
 have := World.rangeAt_of_block h 0 (zag m rt et sv dv).size
 rwa [Nat.zero_add, Array.extract_size] at this
theorem ldM {ops : Array Oper} {rest : List Oper} {op : Oper} {a : Act} {w : World} {Q : Exit -> Act -> World -> Prop} {T : TypeId} {p : Nat} {m : Msg.M} {rt et sv dv : Value} (hw : Region.wanted op (yielded ops a.tmps) = true) (x : Operand) (ho : op.op = .load 89 x)
 (hx : a.eval x = .pointer (some ⟨p, 0, none⟩)) (h : Msg7 T w p m rt et sv dv) (hk : wpList Tryz.prog ops Q rest (a.put op.dst (.agg (zag m rt et sv dv))) w) : wpList Tryz.prog ops Q (op :: rest) a w :=
 BigFrame.wpList_want hw fun K hK => wp_load_mid 89 x ho p 0 hx (zag m rt et sv dv).toList _ h.range Tryz.underlying89 rfl (by kernel_rfl) (hK _ _ hk)
theorem ztu {T : TypeId} {w : World} {M : Nat} {rt et sv dv : Value} {m : Msg.M} (h : MsgAt T w M m rt et sv dv) (o n : Nat) (hn : o + n <= 22) : w.there M o n := fun j hj => by
 refine ⟨?_, zac h _⟩
 rw [zaa h]
 have : o + j < (zag m rt et sv dv).size := by show _ < 22; omega
 rw [Array.getElem?_eq_getElem this]
 rfl
theorem ldAny {P : Program} {ops : Array Oper} {rest : List Oper} {op : Oper} {a : Act} {w : World} {Q : Exit -> Act -> World -> Prop} {T : TypeId} {u v : Value} (hw : Region.wanted op (yielded ops a.tmps) = true) (x : Operand) (ho : op.op = .load T x)
 (hx : a.eval x = u) (hr : (Instr.loadAt T u).run P w = .ok v w) (hk : wpList P ops Q rest (a.put op.dst v) w) : wpList P ops Q (op :: rest) a w :=
 BigFrame.wpList_want hw fun K hK => by
  unfold Oper.wp execOp
  simp only [ho, hx]
  rw [Sem.run_bind, hr]
  exact hK _ _ hk
theorem zgn (w : World) : (Instr.build 89 #[]).run Tryz.prog w = .ok (.agg (zag Msg.none0 (.slice none 0 0) (.slice none 0 0) (.slice none 0 0) (.slice none 0 0))) w := by kernel_rfl
theorem zda (b : Nat) (T : TypeId) (fr : Nat × Nat) : ∀ (vs pre cs : List Value) (o : Nat) (w : World), w.heap[b]? = some (.cells (pre ++ cs).toArray T fr) -> pre.length = o -> cs.length = vs.length -> (w.setCells b o vs).heap[b]? = some (.cells (pre ++ vs).toArray T fr) := by
 intro vs
 induction vs with
 | nil =>
  intro pre cs o w h _ hl
  have : cs = [] := List.length_eq_zero_iff.1 hl
  subst this
  exact h
 | cons v vs ih =>
  intro pre cs o w h ho hl
  match cs, hl with
  | c :: cs, hl =>
   have h1 := heap_setCell h o v
   have e : (pre ++ c :: cs).toArray.setIfInBounds o v = ((pre ++ [v]) ++ cs).toArray := by
    rw [List.setIfInBounds_toArray]
    congr 1
    subst ho
    rw [List.set_append_right _ _ (Nat.le_refl _)]
    simp
   rw [e] at h1
   have h2 := ih (pre ++ [v]) cs (o + 1) (w.setCell ⟨b, o, none⟩ v) h1 (by rw [List.length_append, ho]; rfl) (by simpa using hl)
   rw [show pre ++ v :: vs = (pre ++ [v]) ++ vs by simp]
   exact h2
theorem zdo (b : Nat) : ∀ (vs : List Value) (o : Nat) (w : World), But b w (w.setCells b o vs) := by
 intro vs
 induction vs with
 | nil => exact fun o w => But.refl _ _
 | cons v vs ih => exact fun o w => ((But.refl b w).setCell o none v).trans (ih (o + 1) _)
theorem zro {W : World} {T : TypeId} {q : Nat} {m m2 : Msg.M} {rt et sv dv r2 e2 s2 d2 : Value} (h : MsgAt T W q m rt et sv dv) : MsgAt T (W.setCells q 0 (zag m2 r2 e2 s2 d2).toList) q m2 r2 e2 s2 d2 /\ But q W (W.setCells q 0 (zag m2 r2 e2 s2 d2).toList) :=
 ⟨zda q T (0, 0) (zag m2 r2 e2 s2 d2).toList [] (zag m rt et sv dv).toList 0 W h rfl rfl, zdo q _ _ _⟩
theorem stM {W : World} {T : TypeId} {q : Nat} {m m2 : Msg.M} {rt et sv dv r2 e2 s2 d2 : Value} (h : MsgAt T W q m rt et sv dv) (h1 : ∃ a n c, r2 = .slice a n c) (h2 : ∃ a n c, e2 = .slice a n c) (h3 : ∃ a n c, s2 = .slice a n c) (h4 : ∃ a n c, d2 = .slice a n c) :
 (Instr.storeAt 89 (.pointer (some ⟨q, 0, none⟩)) (.agg (zag m2 r2 e2 s2 d2))).run Tryz.prog W = .ok () (W.setCells q 0 (zag m2 r2 e2 s2 d2).toList) := by
 obtain ⟨_, _, _, rfl⟩ := h1
 obtain ⟨_, _, _, rfl⟩ := h2
 obtain ⟨_, _, _, rfl⟩ := h3
 obtain ⟨_, _, _, rfl⟩ := h4
 exact run_storeAt_mid W q 0 89 _ (ztu h 0 22 (by omega)) (by kernel_rfl) (by simp [zag, Value.oneCell'])
theorem zgk {ops : Array Oper} {rest : List Oper} {op : Oper} {a : Act} {w : World} {Q : Exit -> Act -> World -> Prop} (hw : Region.wanted op (yielded ops a.tmps) = true) (ho : op.op = .alloc 89)
 (h : ∀ W b, Hid (MsgAt 89 W b Msg.none0 (.slice none 0 0) (.slice none 0 0) (.slice none 0 0) (.slice none 0 0)) -> Hid (Ext w W) -> Hid (b = w.heap.size) -> wpList Tryz.prog ops Q rest (a.put op.dst (.pointer (some ⟨b, 0, none⟩))) W) : wpList Tryz.prog ops Q (op :: rest) a w :=
 BigFrame.wpList_want hw fun K hK => by
  have hr : (execOp a.eval op).run Tryz.prog w = .ok (.value (.pointer (some ⟨w.heap.size, 0, none⟩))) (w.alloc (.cells (zag Msg.none0 (.slice none 0 0) (.slice none 0 0) (.slice none 0 0) (.slice none 0 0)) 89)) := by
   unfold execOp
   simp only [ho]
   kernel_rfl
  unfold Oper.wp
  rw [hr]
  exact hK _ _ (h _ _ (Hi (MsgAt.new _ w _ _ _ _ _)) (Hi (Ext.alloc _ _)) (Hi rfl))
theorem putM {ops : Array Oper} {rest : List Oper} {op : Oper} {a : Act} {w : World} {Q : Exit -> Act -> World -> Prop} {q : Nat} {m m2 : Msg.M} {rt et sv dv r2 e2 s2 d2 : Value} (hw : Region.wanted op (yielded ops a.tmps) = true) (x y : Operand) (ho : op.op = .store 89 x y)
 (hx : a.eval x = .pointer (some ⟨q, 0, none⟩)) (hy : a.eval y = .agg (zag m2 r2 e2 s2 d2)) (hat : MsgAt 89 w q m rt et sv dv) (h1 : ∃ a n c, r2 = .slice a n c) (h2 : ∃ a n c, e2 = .slice a n c) (h3 : ∃ a n c, s2 = .slice a n c) (h4 : ∃ a n c, d2 = .slice a n c)
 (h : ∀ W, Hid (MsgAt 89 W q m2 r2 e2 s2 d2) -> Hid (But q w W) -> wpList Tryz.prog ops Q rest (a.put op.dst undef) W) : wpList Tryz.prog ops Q (op :: rest) a w :=
 BigFrame.wpList_want hw fun K hK => by
  have hs := stM (m2 := m2) hat h1 h2 h3 h4
  obtain ⟨k1, k2⟩ := zro (m2 := m2) (r2 := r2) (e2 := e2) (s2 := s2) (d2 := d2) hat
  unfold Oper.wp execOp
  simp only [ho, hx, hy]
  rw [Sem.run_bind, hs]
  exact hK _ _ (h _ (Hi k1) (Hi k2))
theorem zap : ∃ a n c, (Value.slice none 0 0) = .slice a n c := ⟨_, _, _, rfl⟩
def bit1 (m : Msg.M) : Bool := eith (mask m) 1 (decide (0 <= m.shard /\ m.shard <= 7)) (m.shard == 0)
def bit2 (m : Msg.M) : Bool := eith (mask m) 2 (decide (0 <= m.number /\ m.number <= 1099511627776)) (m.number == 0)
def bit3 (m : Msg.M) : Bool := eith (mask m) 4 (Ent.right m.ent) (Ent.alike m.ent Msg.ent0)
def bit4 (m : Msg.M) : Bool := eith (mask m) 8 (decide (1 <= m.ballot /\ m.ballot <= 1099511627776)) (m.ballot == 0)
def bit5 (m : Msg.M) : Bool := eith (mask m) 16 (decide (0 <= m.old /\ m.old <= 1099511627776)) (m.old == 0)
def bit6 (m : Msg.M) : Bool := eith (mask m) 32 true (!m.is)
def bit7 (m : Msg.M) : Bool := eith (mask m) 64 (Rec.right m.reco) (Rec.same m.reco Msg.rec0)
def bit8 (m : Msg.M) : Bool := eith (mask m) 128 (Term.right m.conf && (m.conf.term == m.term)) (Term.alike m.conf Msg.conf0)
def zft (m : Msg.M) : Bool := ((((((bit1 m && bit2 m) && bit3 m) && bit4 m) && bit5 m) && bit6 m) && bit7 m) && bit8 m
def zfg (m : Msg.M) : Bool := decide (1 <= m.kind /\ m.kind <= 10) && (decide (0 <= m.src /\ m.src <= 15) && (decide (0 <= m.dst /\ m.dst <= 15) && decide (1 <= m.term /\ m.term <= 64)))
theorem bits8 (m : Msg.M) (M : Int) (hM : mask m = M) (x1 x2 x3 x4 x5 x6 x7 x8 : Bool) (h1 : zdu M 1 = x1) (h2 : zdu M 2 = x2) (h3 : zdu M 4 = x3) (h4 : zdu M 8 = x4) (h5 : zdu M 16 = x5) (h6 : zdu M 32 = x6) (h7 : zdu M 64 = x7) (h8 : zdu M 128 = x8) :
 zft m = (((((((cond x1 (decide (0 <= m.shard /\ m.shard <= 7)) (m.shard == 0) && cond x2 (decide (0 <= m.number /\ m.number <= 1099511627776)) (m.number == 0)) && cond x3 (Ent.right m.ent) (Ent.alike m.ent Msg.ent0)) && cond x4 (decide (1 <= m.ballot /\ m.ballot <= 1099511627776)) (m.ballot == 0)) && cond x5 (decide (0 <= m.old /\ m.old <= 1099511627776)) (m.old == 0)) && cond x6 true (!m.is)) && cond x7 (Rec.right m.reco) (Rec.same m.reco Msg.rec0)) && cond x8 (Term.right m.conf && (m.conf.term == m.term)) (Term.alike m.conf Msg.conf0)) := by
 unfold zft bit1 bit2 bit3 bit4 bit5 bit6 bit7 bit8 eith
 rw [hM, h1, h2, h3, h4, h5, h6, h7, h8]
theorem zna (m : Msg.M) : Msg.right m = (zfg m && zft m) := by
 obtain ⟨k, s, d, t, sh, n, is, r, e, b, o, c⟩ := m
 by_cases hk : 1 <= k /\ k <= 10
 . have hks : (k = 8 /\ o = 0) \/ (k = 8 /\ ¬ o = 0) \/ k = 1 \/ k = 2 \/ k = 3 \/ k = 4 \/ k = 5 \/ k = 6 \/ k = 7 \/ k = 9 \/ k = 10 := by omega
   rw [Bool.eq_iff_iff]
   rcases hks with ⟨rfl, rfl⟩ | ⟨rfl, ho⟩ | rfl | rfl | rfl | rfl | rfl | rfl | rfl | rfl | rfl
   rw [bits8 ⟨8, s, d, t, sh, n, is, r, e, b, 0, c⟩ 24 (rfl) false false false true true false false false rfl rfl rfl rfl rfl rfl rfl rfl]
   rotate_left
   rw [bits8 ⟨8, s, d, t, sh, n, is, r, e, b, o, c⟩ 152 (by simp [mask, zg4, ho]) false false false true true false false true rfl rfl rfl rfl rfl rfl rfl rfl]
   rotate_left
   rw [bits8 ⟨1, s, d, t, sh, n, is, r, e, b, o, c⟩ 67 (rfl) true true false false false false true false rfl rfl rfl rfl rfl rfl rfl rfl]
   rotate_left
   rw [bits8 ⟨2, s, d, t, sh, n, is, r, e, b, o, c⟩ 3 (rfl) true true false false false false false false rfl rfl rfl rfl rfl rfl rfl rfl]
   rotate_left
   rw [bits8 ⟨3, s, d, t, sh, n, is, r, e, b, o, c⟩ 4 (rfl) false false true false false false false false rfl rfl rfl rfl rfl rfl rfl rfl]
   rotate_left
   rw [bits8 ⟨4, s, d, t, sh, n, is, r, e, b, o, c⟩ 34 (rfl) false true false false false true false false rfl rfl rfl rfl rfl rfl rfl rfl]
   rotate_left
   rw [bits8 ⟨5, s, d, t, sh, n, is, r, e, b, o, c⟩ 0 (rfl) false false false false false false false false rfl rfl rfl rfl rfl rfl rfl rfl]
   rotate_left
   rw [bits8 ⟨6, s, d, t, sh, n, is, r, e, b, o, c⟩ 34 (rfl) false true false false false true false false rfl rfl rfl rfl rfl rfl rfl rfl]
   rotate_left
   rw [bits8 ⟨7, s, d, t, sh, n, is, r, e, b, o, c⟩ 8 (rfl) false false false true false false false false rfl rfl rfl rfl rfl rfl rfl rfl]
   rotate_left
   rw [bits8 ⟨9, s, d, t, sh, n, is, r, e, b, o, c⟩ 136 (rfl) false false false true false false false true rfl rfl rfl rfl rfl rfl rfl rfl]
   rotate_left
   rw [bits8 ⟨10, s, d, t, sh, n, is, r, e, b, o, c⟩ 40 (rfl) false false false true false true false false rfl rfl rfl rfl rfl rfl rfl rfl]
   rotate_left
   all_goals
    unfold zfg
    simp only [cond_true, cond_false, Msg.right, Msg.headOk, Msg.kindOk, Msg.quiet, Msg.votes, Msg.plain, Msg.withConf, Bool.and_eq_true, Bool.or_eq_true, decide_eq_true_eq, beq_iff_eq, Bool.not_eq_true', if_true, reduceCtorEq, Bool.true_or, Bool.false_or, true_and, and_true, true_or, or_true, Int.reduceEq, if_false, or_self, or_false, false_or]
    try simp only [if_neg ho, Bool.and_eq_true, decide_eq_true_eq, beq_iff_eq]
    generalize (Ent.alike e Msg.ent0 = true) = P1 at *
    generalize (Rec.same r Msg.rec0 = true) = P2 at *
    generalize (Term.alike c Msg.conf0 = true) = P3 at *
    generalize (Ent.right e = true) = P4 at *
    generalize (Rec.right r = true) = P5 at *
    generalize (Term.right c = true) = P6 at *
    grind
 . have h1 : Msg.right ⟨k, s, d, t, sh, n, is, r, e, b, o, c⟩ = false := by
    cases h : Msg.right ⟨k, s, d, t, sh, n, is, r, e, b, o, c⟩ with
    | false => rfl
    | true => exact absurd (Msg.kind_in h) hk
   rw [h1]
   unfold zfg
   simp only
   rw [decide_eq_false hk]
   rfl
set_option maxHeartbeats 32000000 in
theorem zgy (v : Value) (m : Msg.M) (w : World) (hv : IsMsg w v m) :
 Calls Tryz.prog 61 #[v] w fun e w' => e = .returned (.bool (Msg.right m)) /\ Ext w w' := by
 have HF := Hi (fun w1 u (hu : IsMsg w1 u m) => zjo u m w1 hu)
 have HCR0 := Hi (fun u w1 (hu : IsConf w1 u m.conf) => zdq u m.conf w1 hu)
 rw [zna]
 obtain ⟨rt, et, sv, dv, rfl, h1, h2, h3, h4⟩ := hv
 have hbx := zhi
 have hE1 : Ext w (w.alloc (.cells (zag m rt et sv dv) 89)) := Ext.alloc _ _
 have HM1 := Hi (show Msg7 89 (w.alloc (.cells (zag m rt et sv dv) 89)) w.heap.size m rt et sv dv from ⟨MsgAt.new _ w m rt et sv dv, h1.below hE1, h2.below hE1, h3.below hE1, h4.below hE1⟩)
 clear h1 h2 h3 h4
 obtain ⟨c0, c1, c2, c3, _⟩ := HM1.out.at_.head
 unfold zfg
 cases k1 : decide (1 <= m.kind /\ m.kind <= 10) with
 | false =>
  have K1 := Hi k1
  clear k1
  go_enter Tryz.func61, Tryz.ntmps61
  go_wp2_with fail
  refine (za8 m.kind 1 10 _).mono ?_
  rw [K1.out]
  rintro e w' ⟨rfl, rfl⟩
  go_wp2_with fail
  go_ret
  exact ⟨rfl, hE1⟩
 | true =>
  have K1 := Hi k1
  clear k1
  cases k2 : decide (0 <= m.src /\ m.src <= 15) with
  | false =>
   have K2 := Hi k2
   clear k2
   go_enter Tryz.func61, Tryz.ntmps61
   go_wp2_with fail
   refine (za8 m.kind 1 10 _).mono ?_
   rw [K1.out]
   rintro e w' ⟨rfl, rfl⟩
   go_wp2_with fail
   refine (zbu m.src _).mono ?_
   rw [K2.out]
   rintro e w' ⟨rfl, rfl⟩
   go_wp2_with fail
   go_ret
   exact ⟨rfl, hE1⟩
  | true =>
   have K2 := Hi k2
   clear k2
   cases k3 : decide (0 <= m.dst /\ m.dst <= 15) with
   | false =>
    have K3 := Hi k3
    clear k3
    go_enter Tryz.func61, Tryz.ntmps61
    go_wp2_with fail
    refine (za8 m.kind 1 10 _).mono ?_
    rw [K1.out]
    rintro e w' ⟨rfl, rfl⟩
    go_wp2_with fail
    refine (zbu m.src _).mono ?_
    rw [K2.out]
    rintro e w' ⟨rfl, rfl⟩
    go_wp2_with fail
    refine (zbu m.dst _).mono ?_
    rw [K3.out]
    rintro e w' ⟨rfl, rfl⟩
    go_wp2_with fail
    go_ret
    exact ⟨rfl, hE1⟩
   | true =>
    have K3 := Hi k3
    clear k3
    cases k4 : decide (1 <= m.term /\ m.term <= 64) with
    | false =>
     have K4 := Hi k4
     clear k4
     go_enter Tryz.func61, Tryz.ntmps61
     go_wp2_with fail
     refine (za8 m.kind 1 10 _).mono ?_
     rw [K1.out]
     rintro e w' ⟨rfl, rfl⟩
     go_wp2_with fail
     refine (zbu m.src _).mono ?_
     rw [K2.out]
     rintro e w' ⟨rfl, rfl⟩
     go_wp2_with fail
     refine (zbu m.dst _).mono ?_
     rw [K3.out]
     rintro e w' ⟨rfl, rfl⟩
     go_wp2_with fail
     refine (za8 m.term 1 64 _).mono ?_
     rw [K4.out]
     rintro e w' ⟨rfl, rfl⟩
     go_wp2_with fail
     go_ret
     exact ⟨rfl, hE1⟩
    | true =>
     have K4 := Hi k4
     clear k4
     have HA := Hi (show zft m = _ from rfl)
     simp only [Bool.true_and]
     obtain ⟨b, hb⟩ : ∃ b, b = zft m := ⟨_, rfl⟩
     rw [<- hb]
     have HB := Hi hb
     clear hb HA
     go_enter Tryz.func61, Tryz.ntmps61
     go_wp2_with fail
     refine (za8 m.kind 1 10 _).mono ?_
     rw [K1.out]
     rintro e w' ⟨rfl, rfl⟩
     go_wp2_with fail
     refine (zbu m.src _).mono ?_
     rw [K2.out]
     rintro e w' ⟨rfl, rfl⟩
     go_wp2_with fail
     refine (zbu m.dst _).mono ?_
     rw [K3.out]
     rintro e w' ⟨rfl, rfl⟩
     go_wp2_with fail
     refine (za8 m.term 1 64 _).mono ?_
     rw [K4.out]
     rintro e w' ⟨rfl, rfl⟩
     clear c0 c1 c2 c3 hbx
     generalize w.alloc (.cells (zag m rt et sv dv) 89) = w1 at *
     generalize w.heap.size = q at *
     go_wp2_with (refine ldM (by rfl) _ rfl rfl HM1.out ?_)
     refine (HF.out _ _ HM1.out.isMsg).mono ?_
     rintro e w2 ⟨rfl, hE2⟩
     go_wp2_with fail
     have hE3 : Ext w (w2.alloc (.cells #[.int .i64 (mask m)] 154)) := hE1.trans (hE2.trans (Ext.alloc _ _))
     have HM := Hi ((HM1.out.ext hE2).ext (Ext.alloc w2 (.cells #[.int .i64 (mask m)] 154)))
     have hcb := heap_alloc_new w2 (.cells #[.int .i64 (mask m)] 154)
     have HC := Hi (zaa hcb 0)
     have HCB := Hi (Array.getElem?_eq_some_iff.1 hcb).1
     clear hcb
     generalize w2.alloc (.cells #[.int .i64 (mask m)] 154) = w3 at *
     generalize w2.heap.size = c at *
     clear hE1 hE2 HM1 HF K1 K2 K3 K4
     obtain ⟨p1, hp1⟩ : ∃ p, p = eith (mask m) 1 (decide (0 <= m.shard /\ m.shard <= 7)) (m.shard == 0) := ⟨_, rfl⟩
     obtain ⟨c2, hc2⟩ : ∃ p, p = eith (mask m) 2 (decide (0 <= m.number /\ m.number <= 1099511627776)) (m.number == 0) := ⟨_, rfl⟩
     obtain ⟨c3, hc3⟩ : ∃ p, p = eith (mask m) 4 (Ent.right m.ent) (Ent.alike m.ent Msg.ent0) := ⟨_, rfl⟩
     obtain ⟨c4, hc4⟩ : ∃ p, p = eith (mask m) 8 (decide (1 <= m.ballot /\ m.ballot <= 1099511627776)) (m.ballot == 0) := ⟨_, rfl⟩
     obtain ⟨c5, hc5⟩ : ∃ p, p = eith (mask m) 16 (decide (0 <= m.old /\ m.old <= 1099511627776)) (m.old == 0) := ⟨_, rfl⟩
     obtain ⟨c6, hc6⟩ : ∃ p, p = eith (mask m) 32 true (!m.is) := ⟨_, rfl⟩
     obtain ⟨c7, hc7⟩ : ∃ p, p = eith (mask m) 64 (Rec.right m.reco) (Rec.same m.reco Msg.rec0) := ⟨_, rfl⟩
     obtain ⟨cr, hcr⟩ : ∃ p, p = Term.right m.conf := ⟨_, rfl⟩
     obtain ⟨cw, hcw⟩ : ∃ p, p = (cr && (m.conf.term == m.term)) := ⟨_, rfl⟩
     obtain ⟨c8, hc8⟩ : ∃ p, p = eith (mask m) 128 cw (Term.alike m.conf Msg.conf0) := ⟨_, rfl⟩
     obtain ⟨p2, hp2⟩ : ∃ p, p = (p1 && c2) := ⟨_, rfl⟩
     obtain ⟨p3, hp3⟩ : ∃ p, p = (p2 && c3) := ⟨_, rfl⟩
     obtain ⟨p4, hp4⟩ : ∃ p, p = (p3 && c4) := ⟨_, rfl⟩
     obtain ⟨p5, hp5⟩ : ∃ p, p = (p4 && c5) := ⟨_, rfl⟩
     obtain ⟨p6, hp6⟩ : ∃ p, p = (p5 && c6) := ⟨_, rfl⟩
     obtain ⟨p7, hp7⟩ : ∃ p, p = (p6 && c7) := ⟨_, rfl⟩
     obtain ⟨p8, hp8⟩ : ∃ p, p = (p7 && c8) := ⟨_, rfl⟩
     have HZ := Hi (show p8 = b by rw [HB.out, hp8, hp7, hp6, hp5, hp4, hp3, hp2, hc8, hcw, hcr, hc7, hc6, hc5, hc4, hc3, hc2, hp1]; rfl)
     have HCR := Hi (fun w1 hu => (hcr ▸ HCR0.out _ w1 hu : Calls Tryz.prog 30 #[.agg #[.int .i64 m.conf.term, sv, dv]] w1 fun x w' => x = .returned (.bool cr) /\ Ext w1 w'))
     have HP1 := Hi hp1
     have HP2 := Hi hp2
     have HP3 := Hi hp3
     have HP4 := Hi hp4
     have HP5 := Hi hp5
     have HP6 := Hi hp6
     have HP7 := Hi hp7
     have HP8 := Hi hp8
     have HC2 := Hi hc2
     have HC3 := Hi hc3
     have HC4 := Hi hc4
     have HC5 := Hi hc5
     have HC6 := Hi hc6
     have HC7 := Hi hc7
     have HC8 := Hi hc8
     have HCW := Hi hcw
     clear hp1 hp2 hp3 hp4 hp5 hp6 hp7 hp8 hc2 hc3 hc4 hc5 hc6 hc7 hc8 hcw hcr HCR0 HB
     refine zat (by kernel_rfl) Ext (fun iop v w => match iop with
      | 0 => v = .func (.func 91) #[] #[.pointer (some ⟨c, 0, none⟩)]
      | 1 => v = .pointer (some ⟨q, 4, none⟩)
      | 2 => v = .int .i64 m.shard
      | 3 => v = .bool (decide (0 <= m.shard /\ m.shard <= 7))
      | 4 => v = .pointer (some ⟨q, 4, none⟩)
      | 5 => v = .int .i64 m.shard
      | 6 => v = .bool (m.shard == 0)
      | 7 => v = .bool p1
      | 8 => v = .bool p1
      | 9 => v = gate p1 (.func (.func 91) #[] #[.pointer (some ⟨c, 0, none⟩)])
      | 10 => v = gate p1 (.pointer (some ⟨q, 5, none⟩))
      | 11 => v = gate p1 (.int .i64 m.number)
      | 12 => v = gate p1 (.bool (decide (0 <= m.number /\ m.number <= 1099511627776)))
      | 13 => v = gate p1 (.pointer (some ⟨q, 5, none⟩))
      | 14 => v = gate p1 (.int .i64 m.number)
      | 15 => v = gate p1 (.bool (m.number == 0))
      | 16 => v = gate p1 (.bool c2)
      | 17 => v = .bool p2
      | 18 => v = .bool p2
      | 19 => v = gate p2 (.func (.func 91) #[] #[.pointer (some ⟨c, 0, none⟩)])
      | 20 => v = gate p2 (.pointer (some ⟨q, 11, none⟩))
      | 21 => v = gate p2 (.agg #[.int .i64 m.ent.number, .int .i64 m.ent.kind, et, .int .i64 m.ent.tag, .int .i64 m.ent.term, .int .i64 m.ent.pos])
      | 22 => v = gate p2 (.bool (Ent.right m.ent))
      | 23 => v = gate p2 (.pointer (some ⟨q, 11, none⟩))
      | 24 => v = gate p2 (.agg #[.int .i64 m.ent.number, .int .i64 m.ent.kind, et, .int .i64 m.ent.tag, .int .i64 m.ent.term, .int .i64 m.ent.pos])
      | 25 => v = gate p2 (.agg #[.int .i64 0, .int .i64 0, .slice none 0 0, .int .i64 0, .int .i64 0, .int .i64 0])
      | 26 => v = gate p2 (.bool (Ent.alike m.ent Msg.ent0))
      | 27 => v = gate p2 (.bool c3)
      | 28 => v = .bool p3
      | 29 => v = .bool p3
      | 30 => v = gate p3 (.func (.func 91) #[] #[.pointer (some ⟨c, 0, none⟩)])
      | 31 => v = gate p3 (.pointer (some ⟨q, 17, none⟩))
      | 32 => v = gate p3 (.int .i64 m.ballot)
      | 33 => v = gate p3 (.bool (decide (1 <= m.ballot /\ m.ballot <= 1099511627776)))
      | 34 => v = gate p3 (.pointer (some ⟨q, 17, none⟩))
      | 35 => v = gate p3 (.int .i64 m.ballot)
      | 36 => v = gate p3 (.bool (m.ballot == 0))
      | 37 => v = gate p3 (.bool c4)
      | 38 => v = .bool p4
      | 39 => v = .bool p4
      | 40 => v = gate p4 (.func (.func 91) #[] #[.pointer (some ⟨c, 0, none⟩)])
      | 41 => v = gate p4 (.pointer (some ⟨q, 18, none⟩))
      | 42 => v = gate p4 (.int .i64 m.old)
      | 43 => v = gate p4 (.bool (decide (0 <= m.old /\ m.old <= 1099511627776)))
      | 44 => v = gate p4 (.pointer (some ⟨q, 18, none⟩))
      | 45 => v = gate p4 (.int .i64 m.old)
      | 46 => v = gate p4 (.bool (m.old == 0))
      | 47 => v = gate p4 (.bool c5)
      | 48 => v = .bool p5
      | 49 => v = .bool p5
      | 50 => v = gate p5 (.func (.func 91) #[] #[.pointer (some ⟨c, 0, none⟩)])
      | 51 => v = gate p5 (.pointer (some ⟨q, 6, none⟩))
      | 52 => v = gate p5 (.bool m.is)
      | 53 => v = gate p5 (.bool (!m.is))
      | 54 => v = gate p5 (.bool c6)
      | 55 => v = .bool p6
      | 56 => v = .bool p6
      | 57 => v = gate p6 (.func (.func 91) #[] #[.pointer (some ⟨c, 0, none⟩)])
      | 58 => v = gate p6 (.pointer (some ⟨q, 7, none⟩))
      | 59 => v = gate p6 (.agg #[.int .i64 m.reco.client, .int .i64 m.reco.number, rt, .string ⟨m.reco.data.toArray⟩])
      | 60 => v = gate p6 (.bool (Rec.right m.reco))
      | 61 => v = gate p6 (.pointer (some ⟨q, 7, none⟩))
      | 62 => v = gate p6 (.agg #[.int .i64 m.reco.client, .int .i64 m.reco.number, rt, .string ⟨m.reco.data.toArray⟩])
      | 63 => v = gate p6 (.agg #[.int .i64 0, .int .i64 0, .slice none 0 0, .string ⟨#[]⟩])
      | 64 => v = gate p6 (.bool (Rec.same m.reco Msg.rec0))
      | 65 => v = gate p6 (.bool c7)
      | 66 => v = .bool p7
      | 67 => v = .bool p7
      | 68 => v = gate p7 (.func (.func 91) #[] #[.pointer (some ⟨c, 0, none⟩)])
      | 69 => v = gate p7 (.pointer (some ⟨q, 19, none⟩))
      | 70 => v = gate p7 (.agg #[.int .i64 m.conf.term, sv, dv])
      | 71 => v = gate p7 (.bool cr)
      | 72 => v = gate p7 (.bool cr)
      | 73 => v = gate p7 (gate cr (.pointer (some ⟨q, 19, none⟩)))
      | 74 => v = gate p7 (gate cr (.pointer (some ⟨q, 19, none⟩)))
      | 75 => v = gate p7 (gate cr (.int .i64 m.conf.term))
      | 76 => v = gate p7 (gate cr (.pointer (some ⟨q, 3, none⟩)))
      | 77 => v = gate p7 (gate cr (.int .i64 m.term))
      | 78 => v = gate p7 (gate cr (.bool (m.conf.term == m.term)))
      | 79 => v = gate p7 (.bool cw)
      | 80 => v = gate p7 (.pointer (some ⟨q, 19, none⟩))
      | 81 => v = gate p7 (.agg #[.int .i64 m.conf.term, sv, dv])
      | 82 => v = gate p7 (.agg #[.int .i64 0, .slice none 0 0, .slice none 0 0])
      | 83 => v = gate p7 (.bool (Term.alike m.conf Msg.conf0))
      | 84 => v = gate p7 (.bool c8)
      | 85 => v = .bool p8
      | _ => v = .bool p8
      ) (by kernel_rfl) (fun _ _ _ h k => Ext.trans h k) (fun a => Ext.refl a) (Ext.drew _) ?_ ?_ ?_
     . intro iop v wa wb hF hL
       iterate 86 (rcases iop with _ | iop; exact hF)
       exact hF
     . refine Obls.cons ?_ (Obls.cons ?_ (Obls.cons ?_ (Obls.cons ?_ (Obls.cons ?_ (Obls.cons ?_ (Obls.cons ?_ (Obls.cons ?_ (Obls.cons ?_ (Obls.cons ?_ (Obls.cons ?_ (Obls.cons ?_ (Obls.cons ?_ (Obls.cons ?_ (Obls.cons ?_ (Obls.cons ?_ (Obls.cons ?_ (Obls.cons ?_ (Obls.cons ?_ (Obls.cons ?_ (Obls.cons ?_ (Obls.cons ?_ (Obls.cons ?_ (Obls.cons ?_ (Obls.cons ?_ (Obls.cons ?_ (Obls.cons ?_ (Obls.cons ?_ (Obls.cons ?_ (Obls.cons ?_ (Obls.cons ?_ (Obls.cons ?_ (Obls.cons ?_ (Obls.cons ?_ (Obls.cons ?_ (Obls.cons ?_ (Obls.cons ?_ (Obls.cons ?_ (Obls.cons ?_ (Obls.cons ?_ (Obls.cons ?_ (Obls.cons ?_ (Obls.cons ?_ (Obls.cons ?_ (Obls.cons ?_ (Obls.cons ?_ (Obls.cons ?_ (Obls.cons ?_ (Obls.cons ?_ (Obls.cons ?_ (Obls.cons ?_ (Obls.cons ?_ (Obls.cons ?_ (Obls.cons ?_ (Obls.cons ?_ (Obls.cons ?_ (Obls.cons ?_ (Obls.cons ?_ (Obls.cons ?_ (Obls.cons ?_ (Obls.cons ?_ (Obls.cons ?_ (Obls.cons ?_ (Obls.cons ?_ (Obls.cons ?_ (Obls.cons ?_ (Obls.cons ?_ (Obls.cons ?_ (Obls.cons ?_ (Obls.cons ?_ (Obls.cons ?_ (Obls.cons ?_ (Obls.cons ?_ (Obls.cons ?_ (Obls.cons ?_ (Obls.cons ?_ (Obls.cons ?_ (Obls.cons ?_ (Obls.cons ?_ (Obls.cons ?_ (Obls.cons ?_ (Obls.cons ?_ (Obls.cons ?_ (Obls.cons ?_ (Obls.cons ?_ (Obls.cons ?_ (Obls.cons ?_ (Obls.nil)))))))))))))))))))))))))))))))))))))))))))))))))))))))))))))))))))))))))))))))))))))))
       . intro ev wy hp hl hk hd
         have e4 : ev _ = .func (.func 91) #[] #[.pointer (some ⟨c, 0, none⟩)] := hk 4 (by decide)
         exact Yield.mv rfl ⟨Ext.refl _, e4⟩
       . intro ev wy hp hl hk hd
         have e1 : ev _ = .pointer (some ⟨q, 0, none⟩) := hk 1 (by decide)
         exact Yield.oq (by simp [execOp, go_sem, e1])
       . intro ev wy hp hl hk hd
         have e31 : ev _ = _ := hk 31 (by decide)
         exact Yield.load rfl e31 (ldInt (HM.out.ext hl).at_.head.2.2.2.2.1) ⟨Ext.refl _, rfl⟩
       . intro ev wy hp hl hk hd
         have e32 : ev _ = _ := hk 32 (by decide)
         refine Yield.call rfl hp Tryz.func88 rfl (by kernel_rfl) ?_
         simp only [List.map_toArray, List.map_cons, List.map_nil, hp.const, e32]
         exact ((zb7 _ _ _ _)).mono fun _ _ ⟨he, hb⟩ => ⟨_, he, hb, by first | rfl | simp⟩
       . intro ev wy hp hl hk hd
         have e1 : ev _ = .pointer (some ⟨q, 0, none⟩) := hk 1 (by decide)
         exact Yield.oq (by simp [execOp, go_sem, e1])
       . intro ev wy hp hl hk hd
         have e34 : ev _ = _ := hk 34 (by decide)
         exact Yield.load rfl e34 (ldInt (HM.out.ext hl).at_.head.2.2.2.2.1) ⟨Ext.refl _, rfl⟩
       . intro ev wy hp hl hk hd
         have e35 : ev _ = _ := hk 35 (by decide)
         exact Yield.oq (by simp [execOp, go_sem, e35, hp.const])
       . intro ev wy hp hl hk hd
         have e30 : ev _ = _ := hk 30 (by decide)
         have e33 : ev _ = _ := hk 33 (by decide)
         have e36 : ev _ = _ := hk 36 (by decide)
         refine Yield.callf rfl e30 Tryz.func91 rfl (by kernel_rfl) ?_
         simp only [List.map_toArray, List.map_cons, List.map_nil, List.append_toArray, List.cons_append, List.nil_append, hp.const, e33, e36]
         exact (zby _ _ _ _ c _ ((hl.cell (p := ⟨c, 0, none⟩) HCB.out).trans HC.out)).mono fun e w' ⟨he, hE⟩ => ⟨_, he, hE, by rw [HP1.out]⟩
       . intro ev wy hp hl hk hd
         have e37 : ev _ = _ := hk 37 (by decide)
         exact Yield.mv rfl ⟨Ext.refl _, e37⟩
       . intro ev wy hp hl hk hd
         obtain hgc | hgc := p1.eq_false_or_eq_true.symm
         . subst hgc; exact ⟨fun x hx he => (by rw [show x = .bool false from hx] at he; cases he), fun _ _ _ => rfl⟩
         subst hgc
         have e4 : ev _ = .func (.func 91) #[] #[.pointer (some ⟨c, 0, none⟩)] := hk 4 (by decide)
         refine ⟨fun _ _ _ => ?_, fun _ hx hne => absurd hx hne⟩
         exact Yield.mv rfl ⟨Ext.refl _, e4⟩
       . intro ev wy hp hl hk hd
         obtain hgc | hgc := p1.eq_false_or_eq_true.symm
         . subst hgc; exact ⟨fun x hx he => (by rw [show x = .bool false from hx] at he; cases he), fun _ _ _ => rfl⟩
         subst hgc
         have e1 : ev _ = .pointer (some ⟨q, 0, none⟩) := hk 1 (by decide)
         refine ⟨fun _ _ _ => ?_, fun _ hx hne => absurd hx hne⟩
         exact Yield.op (v := .pointer (some ⟨q, 5, none⟩)) (w' := wy) (by simp [execOp, go_sem, e1]) ⟨Ext.refl _, rfl⟩
       . intro ev wy hp hl hk hd
         obtain hgc | hgc := p1.eq_false_or_eq_true.symm
         . subst hgc; exact ⟨fun x hx he => (by rw [show x = .bool false from hx] at he; cases he), fun _ _ _ => rfl⟩
         subst hgc
         have e40 : ev _ = .pointer (some ⟨q, 5, none⟩) := hk 40 (by decide)
         refine ⟨fun _ _ _ => ?_, fun _ hx hne => absurd hx hne⟩
         exact Yield.load rfl e40 (ldInt (HM.out.ext hl).at_.head.2.2.2.2.2.1) ⟨Ext.refl _, rfl⟩
       . intro ev wy hp hl hk hd
         obtain hgc | hgc := p1.eq_false_or_eq_true.symm
         . subst hgc; exact ⟨fun x hx he => (by rw [show x = .bool false from hx] at he; cases he), fun _ _ _ => rfl⟩
         subst hgc
         have e41 : ev _ = .int .i64 m.number := hk 41 (by decide)
         refine ⟨fun _ _ _ => ?_, fun _ hx hne => absurd hx hne⟩
         refine Yield.call rfl hp Tryz.func88 rfl (by kernel_rfl) ?_
         simp only [List.map_toArray, List.map_cons, List.map_nil, hp.const, e41]
         exact ((zb7 _ _ _ _)).mono fun _ _ ⟨he, hb⟩ => ⟨_, he, hb, by first | rfl | simp⟩
       . intro ev wy hp hl hk hd
         obtain hgc | hgc := p1.eq_false_or_eq_true.symm
         . subst hgc; exact ⟨fun x hx he => (by rw [show x = .bool false from hx] at he; cases he), fun _ _ _ => rfl⟩
         subst hgc
         have e1 : ev _ = .pointer (some ⟨q, 0, none⟩) := hk 1 (by decide)
         refine ⟨fun _ _ _ => ?_, fun _ hx hne => absurd hx hne⟩
         exact Yield.op (v := .pointer (some ⟨q, 5, none⟩)) (w' := wy) (by simp [execOp, go_sem, e1]) ⟨Ext.refl _, rfl⟩
       . intro ev wy hp hl hk hd
         obtain hgc | hgc := p1.eq_false_or_eq_true.symm
         . subst hgc; exact ⟨fun x hx he => (by rw [show x = .bool false from hx] at he; cases he), fun _ _ _ => rfl⟩
         subst hgc
         have e43 : ev _ = .pointer (some ⟨q, 5, none⟩) := hk 43 (by decide)
         refine ⟨fun _ _ _ => ?_, fun _ hx hne => absurd hx hne⟩
         exact Yield.load rfl e43 (ldInt (HM.out.ext hl).at_.head.2.2.2.2.2.1) ⟨Ext.refl _, rfl⟩
       . intro ev wy hp hl hk hd
         obtain hgc | hgc := p1.eq_false_or_eq_true.symm
         . subst hgc; exact ⟨fun x hx he => (by rw [show x = .bool false from hx] at he; cases he), fun _ _ _ => rfl⟩
         subst hgc
         have e44 : ev _ = .int .i64 m.number := hk 44 (by decide)
         refine ⟨fun _ _ _ => ?_, fun _ hx hne => absurd hx hne⟩
         exact Yield.op (v := .bool (m.number == 0)) (w' := wy) (by simp [execOp, go_sem, e44, hp.const]) ⟨Ext.refl _, rfl⟩
       . intro ev wy hp hl hk hd
         obtain hgc | hgc := p1.eq_false_or_eq_true.symm
         . subst hgc; exact ⟨fun x hx he => (by rw [show x = .bool false from hx] at he; cases he), fun _ _ _ => rfl⟩
         subst hgc
         have e39 : ev _ = .func (.func 91) #[] #[.pointer (some ⟨c, 0, none⟩)] := hk 39 (by decide)
         have e42 : ev _ = .bool (decide (0 <= m.number /\ m.number <= 1099511627776)) := hk 42 (by decide)
         have e45 : ev _ = .bool (m.number == 0) := hk 45 (by decide)
         refine ⟨fun _ _ _ => ?_, fun _ hx hne => absurd hx hne⟩
         refine Yield.callf rfl e39 Tryz.func91 rfl (by kernel_rfl) ?_
         simp only [List.map_toArray, List.map_cons, List.map_nil, List.append_toArray, List.cons_append, List.nil_append, hp.const, e42, e45]
         exact (zby _ _ _ _ c _ ((hl.cell (p := ⟨c, 0, none⟩) HCB.out).trans HC.out)).mono fun e w' ⟨he, hE⟩ => ⟨_, he, hE, by rw [HC2.out]; rfl⟩
       . intro ev wy hp hl hk hd
         have e38 : ev _ = _ := hk 38 (by decide)
         have e46 : ev _ = gate p1 (.bool c2) := hk 46 (by decide)
         obtain hgc | hgc : p1 = false \/ p1 = true := by cases p1 <;> simp
         . subst hgc; exact Yield.pick (t := false) rfl e38 ⟨Ext.refl _, by rw [HP2.out]; exact hp.const _⟩
         . subst hgc; exact Yield.pick (t := true) rfl e38 ⟨Ext.refl _, by rw [HP2.out]; exact e46⟩
       . intro ev wy hp hl hk hd
         have e47 : ev _ = _ := hk 47 (by decide)
         exact Yield.mv rfl ⟨Ext.refl _, e47⟩
       . intro ev wy hp hl hk hd
         obtain hgc | hgc := p2.eq_false_or_eq_true.symm
         . subst hgc; exact ⟨fun x hx he => (by rw [show x = .bool false from hx] at he; cases he), fun _ _ _ => rfl⟩
         subst hgc
         have e4 : ev _ = .func (.func 91) #[] #[.pointer (some ⟨c, 0, none⟩)] := hk 4 (by decide)
         refine ⟨fun _ _ _ => ?_, fun _ hx hne => absurd hx hne⟩
         exact Yield.mv rfl ⟨Ext.refl _, e4⟩
       . intro ev wy hp hl hk hd
         obtain hgc | hgc := p2.eq_false_or_eq_true.symm
         . subst hgc; exact ⟨fun x hx he => (by rw [show x = .bool false from hx] at he; cases he), fun _ _ _ => rfl⟩
         subst hgc
         have e1 : ev _ = .pointer (some ⟨q, 0, none⟩) := hk 1 (by decide)
         refine ⟨fun _ _ _ => ?_, fun _ hx hne => absurd hx hne⟩
         exact Yield.op (v := .pointer (some ⟨q, 11, none⟩)) (w' := wy) (by simp [execOp, go_sem, e1]) ⟨Ext.refl _, rfl⟩
       . intro ev wy hp hl hk hd
         obtain hgc | hgc := p2.eq_false_or_eq_true.symm
         . subst hgc; exact ⟨fun x hx he => (by rw [show x = .bool false from hx] at he; cases he), fun _ _ _ => rfl⟩
         subst hgc
         have e50 : ev _ = .pointer (some ⟨q, 11, none⟩) := hk 50 (by decide)
         refine ⟨fun _ _ _ => ?_, fun _ hx hne => absurd hx hne⟩
         exact Yield.load rfl e50 ((HM.out.ext hl).ldEnt _ (.inl rfl)) ⟨Ext.refl _, rfl⟩
       . intro ev wy hp hl hk hd
         obtain hgc | hgc := p2.eq_false_or_eq_true.symm
         . subst hgc; exact ⟨fun x hx he => (by rw [show x = .bool false from hx] at he; cases he), fun _ _ _ => rfl⟩
         subst hgc
         have e51 : ev _ = .agg #[.int .i64 m.ent.number, .int .i64 m.ent.kind, et, .int .i64 m.ent.tag, .int .i64 m.ent.term, .int .i64 m.ent.pos] := hk 51 (by decide)
         refine ⟨fun _ _ _ => ?_, fun _ hx hne => absurd hx hne⟩
         refine Yield.call rfl hp Tryz.func87 rfl (by kernel_rfl) ?_
         simp only [List.map_toArray, List.map_cons, List.map_nil, e51]
         exact ((zbg _ m.ent _ (HM.out.ext hl).isEnt)).mono fun _ _ ⟨he, hb⟩ => ⟨_, he, hb, by first | rfl | simp⟩
       . intro ev wy hp hl hk hd
         obtain hgc | hgc := p2.eq_false_or_eq_true.symm
         . subst hgc; exact ⟨fun x hx he => (by rw [show x = .bool false from hx] at he; cases he), fun _ _ _ => rfl⟩
         subst hgc
         have e1 : ev _ = .pointer (some ⟨q, 0, none⟩) := hk 1 (by decide)
         refine ⟨fun _ _ _ => ?_, fun _ hx hne => absurd hx hne⟩
         exact Yield.op (v := .pointer (some ⟨q, 11, none⟩)) (w' := wy) (by simp [execOp, go_sem, e1]) ⟨Ext.refl _, rfl⟩
       . intro ev wy hp hl hk hd
         obtain hgc | hgc := p2.eq_false_or_eq_true.symm
         . subst hgc; exact ⟨fun x hx he => (by rw [show x = .bool false from hx] at he; cases he), fun _ _ _ => rfl⟩
         subst hgc
         have e53 : ev _ = .pointer (some ⟨q, 11, none⟩) := hk 53 (by decide)
         refine ⟨fun _ _ _ => ?_, fun _ hx hne => absurd hx hne⟩
         exact Yield.load rfl e53 ((HM.out.ext hl).ldEnt _ (.inl rfl)) ⟨Ext.refl _, rfl⟩
       . intro ev wy hp hl hk hd
         obtain hgc | hgc := p2.eq_false_or_eq_true.symm
         . subst hgc; exact ⟨fun x hx he => (by rw [show x = .bool false from hx] at he; cases he), fun _ _ _ => rfl⟩
         subst hgc
         refine ⟨fun _ _ _ => ?_, fun _ hx hne => absurd hx hne⟩
         exact Yield.op (v := .agg #[.int .i64 0, .int .i64 0, .slice none 0 0, .int .i64 0, .int .i64 0, .int .i64 0]) (w' := wy) (by simp [execOp, go_sem, zg0]) ⟨Ext.refl _, rfl⟩
       . intro ev wy hp hl hk hd
         obtain hgc | hgc := p2.eq_false_or_eq_true.symm
         . subst hgc; exact ⟨fun x hx he => (by rw [show x = .bool false from hx] at he; cases he), fun _ _ _ => rfl⟩
         subst hgc
         have e54 : ev _ = .agg #[.int .i64 m.ent.number, .int .i64 m.ent.kind, et, .int .i64 m.ent.tag, .int .i64 m.ent.term, .int .i64 m.ent.pos] := hk 54 (by decide)
         have e55 : ev _ = .agg #[.int .i64 0, .int .i64 0, .slice none 0 0, .int .i64 0, .int .i64 0, .int .i64 0] := hk 55 (by decide)
         refine ⟨fun _ _ _ => ?_, fun _ hx hne => absurd hx hne⟩
         refine Yield.call rfl hp Tryz.func52 rfl (by kernel_rfl) ?_
         simp only [List.map_toArray, List.map_cons, List.map_nil, e54, e55]
         exact ((zfm _ _ m.ent Msg.ent0 _ (HM.out.ext hl).isEnt (zta _))).mono fun _ _ ⟨he, hb⟩ => ⟨_, he, hb, by first | rfl | simp⟩
       . intro ev wy hp hl hk hd
         obtain hgc | hgc := p2.eq_false_or_eq_true.symm
         . subst hgc; exact ⟨fun x hx he => (by rw [show x = .bool false from hx] at he; cases he), fun _ _ _ => rfl⟩
         subst hgc
         have e49 : ev _ = .func (.func 91) #[] #[.pointer (some ⟨c, 0, none⟩)] := hk 49 (by decide)
         have e52 : ev _ = .bool (Ent.right m.ent) := hk 52 (by decide)
         have e56 : ev _ = .bool (Ent.alike m.ent Msg.ent0) := hk 56 (by decide)
         refine ⟨fun _ _ _ => ?_, fun _ hx hne => absurd hx hne⟩
         refine Yield.callf rfl e49 Tryz.func91 rfl (by kernel_rfl) ?_
         simp only [List.map_toArray, List.map_cons, List.map_nil, List.append_toArray, List.cons_append, List.nil_append, hp.const, e52, e56]
         exact (zby _ _ _ _ c _ ((hl.cell (p := ⟨c, 0, none⟩) HCB.out).trans HC.out)).mono fun e w' ⟨he, hE⟩ => ⟨_, he, hE, by rw [HC3.out]; rfl⟩
       . intro ev wy hp hl hk hd
         have e48 : ev _ = _ := hk 48 (by decide)
         have e57 : ev _ = gate p2 (.bool c3) := hk 57 (by decide)
         obtain hgc | hgc : p2 = false \/ p2 = true := by cases p2 <;> simp
         . subst hgc; exact Yield.pick (t := false) rfl e48 ⟨Ext.refl _, by rw [HP3.out]; exact hp.const _⟩
         . subst hgc; exact Yield.pick (t := true) rfl e48 ⟨Ext.refl _, by rw [HP3.out]; exact e57⟩
       . intro ev wy hp hl hk hd
         have e58 : ev _ = _ := hk 58 (by decide)
         exact Yield.mv rfl ⟨Ext.refl _, e58⟩
       . intro ev wy hp hl hk hd
         obtain hgc | hgc := p3.eq_false_or_eq_true.symm
         . subst hgc; exact ⟨fun x hx he => (by rw [show x = .bool false from hx] at he; cases he), fun _ _ _ => rfl⟩
         subst hgc
         have e4 : ev _ = .func (.func 91) #[] #[.pointer (some ⟨c, 0, none⟩)] := hk 4 (by decide)
         refine ⟨fun _ _ _ => ?_, fun _ hx hne => absurd hx hne⟩
         exact Yield.mv rfl ⟨Ext.refl _, e4⟩
       . intro ev wy hp hl hk hd
         obtain hgc | hgc := p3.eq_false_or_eq_true.symm
         . subst hgc; exact ⟨fun x hx he => (by rw [show x = .bool false from hx] at he; cases he), fun _ _ _ => rfl⟩
         subst hgc
         have e1 : ev _ = .pointer (some ⟨q, 0, none⟩) := hk 1 (by decide)
         refine ⟨fun _ _ _ => ?_, fun _ hx hne => absurd hx hne⟩
         exact Yield.op (v := .pointer (some ⟨q, 17, none⟩)) (w' := wy) (by simp [execOp, go_sem, e1]) ⟨Ext.refl _, rfl⟩
       . intro ev wy hp hl hk hd
         obtain hgc | hgc := p3.eq_false_or_eq_true.symm
         . subst hgc; exact ⟨fun x hx he => (by rw [show x = .bool false from hx] at he; cases he), fun _ _ _ => rfl⟩
         subst hgc
         have e61 : ev _ = .pointer (some ⟨q, 17, none⟩) := hk 61 (by decide)
         refine ⟨fun _ _ _ => ?_, fun _ hx hne => absurd hx hne⟩
         exact Yield.load rfl e61 (ldInt (HM.out.ext hl).at_.votes.1) ⟨Ext.refl _, rfl⟩
       . intro ev wy hp hl hk hd
         obtain hgc | hgc := p3.eq_false_or_eq_true.symm
         . subst hgc; exact ⟨fun x hx he => (by rw [show x = .bool false from hx] at he; cases he), fun _ _ _ => rfl⟩
         subst hgc
         have e62 : ev _ = .int .i64 m.ballot := hk 62 (by decide)
         refine ⟨fun _ _ _ => ?_, fun _ hx hne => absurd hx hne⟩
         refine Yield.call rfl hp Tryz.func88 rfl (by kernel_rfl) ?_
         simp only [List.map_toArray, List.map_cons, List.map_nil, hp.const, e62]
         exact ((zb7 _ _ _ _)).mono fun _ _ ⟨he, hb⟩ => ⟨_, he, hb, by first | rfl | simp⟩
       . intro ev wy hp hl hk hd
         obtain hgc | hgc := p3.eq_false_or_eq_true.symm
         . subst hgc; exact ⟨fun x hx he => (by rw [show x = .bool false from hx] at he; cases he), fun _ _ _ => rfl⟩
         subst hgc
         have e1 : ev _ = .pointer (some ⟨q, 0, none⟩) := hk 1 (by decide)
         refine ⟨fun _ _ _ => ?_, fun _ hx hne => absurd hx hne⟩
         exact Yield.op (v := .pointer (some ⟨q, 17, none⟩)) (w' := wy) (by simp [execOp, go_sem, e1]) ⟨Ext.refl _, rfl⟩
       . intro ev wy hp hl hk hd
         obtain hgc | hgc := p3.eq_false_or_eq_true.symm
         . subst hgc; exact ⟨fun x hx he => (by rw [show x = .bool false from hx] at he; cases he), fun _ _ _ => rfl⟩
         subst hgc
         have e64 : ev _ = .pointer (some ⟨q, 17, none⟩) := hk 64 (by decide)
         refine ⟨fun _ _ _ => ?_, fun _ hx hne => absurd hx hne⟩
         exact Yield.load rfl e64 (ldInt (HM.out.ext hl).at_.votes.1) ⟨Ext.refl _, rfl⟩
       . intro ev wy hp hl hk hd
         obtain hgc | hgc := p3.eq_false_or_eq_true.symm
         . subst hgc; exact ⟨fun x hx he => (by rw [show x = .bool false from hx] at he; cases he), fun _ _ _ => rfl⟩
         subst hgc
         have e65 : ev _ = .int .i64 m.ballot := hk 65 (by decide)
         refine ⟨fun _ _ _ => ?_, fun _ hx hne => absurd hx hne⟩
         exact Yield.op (v := .bool (m.ballot == 0)) (w' := wy) (by simp [execOp, go_sem, e65, hp.const]) ⟨Ext.refl _, rfl⟩
       . intro ev wy hp hl hk hd
         obtain hgc | hgc := p3.eq_false_or_eq_true.symm
         . subst hgc; exact ⟨fun x hx he => (by rw [show x = .bool false from hx] at he; cases he), fun _ _ _ => rfl⟩
         subst hgc
         have e60 : ev _ = .func (.func 91) #[] #[.pointer (some ⟨c, 0, none⟩)] := hk 60 (by decide)
         have e63 : ev _ = .bool (decide (1 <= m.ballot /\ m.ballot <= 1099511627776)) := hk 63 (by decide)
         have e66 : ev _ = .bool (m.ballot == 0) := hk 66 (by decide)
         refine ⟨fun _ _ _ => ?_, fun _ hx hne => absurd hx hne⟩
         refine Yield.callf rfl e60 Tryz.func91 rfl (by kernel_rfl) ?_
         simp only [List.map_toArray, List.map_cons, List.map_nil, List.append_toArray, List.cons_append, List.nil_append, hp.const, e63, e66]
         exact (zby _ _ _ _ c _ ((hl.cell (p := ⟨c, 0, none⟩) HCB.out).trans HC.out)).mono fun e w' ⟨he, hE⟩ => ⟨_, he, hE, by rw [HC4.out]; rfl⟩
       . intro ev wy hp hl hk hd
         have e59 : ev _ = _ := hk 59 (by decide)
         have e67 : ev _ = gate p3 (.bool c4) := hk 67 (by decide)
         obtain hgc | hgc : p3 = false \/ p3 = true := by cases p3 <;> simp
         . subst hgc; exact Yield.pick (t := false) rfl e59 ⟨Ext.refl _, by rw [HP4.out]; exact hp.const _⟩
         . subst hgc; exact Yield.pick (t := true) rfl e59 ⟨Ext.refl _, by rw [HP4.out]; exact e67⟩
       . intro ev wy hp hl hk hd
         have e68 : ev _ = _ := hk 68 (by decide)
         exact Yield.mv rfl ⟨Ext.refl _, e68⟩
       . intro ev wy hp hl hk hd
         obtain hgc | hgc := p4.eq_false_or_eq_true.symm
         . subst hgc; exact ⟨fun x hx he => (by rw [show x = .bool false from hx] at he; cases he), fun _ _ _ => rfl⟩
         subst hgc
         have e4 : ev _ = .func (.func 91) #[] #[.pointer (some ⟨c, 0, none⟩)] := hk 4 (by decide)
         refine ⟨fun _ _ _ => ?_, fun _ hx hne => absurd hx hne⟩
         exact Yield.mv rfl ⟨Ext.refl _, e4⟩
       . intro ev wy hp hl hk hd
         obtain hgc | hgc := p4.eq_false_or_eq_true.symm
         . subst hgc; exact ⟨fun x hx he => (by rw [show x = .bool false from hx] at he; cases he), fun _ _ _ => rfl⟩
         subst hgc
         have e1 : ev _ = .pointer (some ⟨q, 0, none⟩) := hk 1 (by decide)
         refine ⟨fun _ _ _ => ?_, fun _ hx hne => absurd hx hne⟩
         exact Yield.op (v := .pointer (some ⟨q, 18, none⟩)) (w' := wy) (by simp [execOp, go_sem, e1]) ⟨Ext.refl _, rfl⟩
       . intro ev wy hp hl hk hd
         obtain hgc | hgc := p4.eq_false_or_eq_true.symm
         . subst hgc; exact ⟨fun x hx he => (by rw [show x = .bool false from hx] at he; cases he), fun _ _ _ => rfl⟩
         subst hgc
         have e71 : ev _ = .pointer (some ⟨q, 18, none⟩) := hk 71 (by decide)
         refine ⟨fun _ _ _ => ?_, fun _ hx hne => absurd hx hne⟩
         exact Yield.load rfl e71 (ldInt (HM.out.ext hl).at_.votes.2) ⟨Ext.refl _, rfl⟩
       . intro ev wy hp hl hk hd
         obtain hgc | hgc := p4.eq_false_or_eq_true.symm
         . subst hgc; exact ⟨fun x hx he => (by rw [show x = .bool false from hx] at he; cases he), fun _ _ _ => rfl⟩
         subst hgc
         have e72 : ev _ = .int .i64 m.old := hk 72 (by decide)
         refine ⟨fun _ _ _ => ?_, fun _ hx hne => absurd hx hne⟩
         refine Yield.call rfl hp Tryz.func88 rfl (by kernel_rfl) ?_
         simp only [List.map_toArray, List.map_cons, List.map_nil, hp.const, e72]
         exact ((zb7 _ _ _ _)).mono fun _ _ ⟨he, hb⟩ => ⟨_, he, hb, by first | rfl | simp⟩
       . intro ev wy hp hl hk hd
         obtain hgc | hgc := p4.eq_false_or_eq_true.symm
         . subst hgc; exact ⟨fun x hx he => (by rw [show x = .bool false from hx] at he; cases he), fun _ _ _ => rfl⟩
         subst hgc
         have e1 : ev _ = .pointer (some ⟨q, 0, none⟩) := hk 1 (by decide)
         refine ⟨fun _ _ _ => ?_, fun _ hx hne => absurd hx hne⟩
         exact Yield.op (v := .pointer (some ⟨q, 18, none⟩)) (w' := wy) (by simp [execOp, go_sem, e1]) ⟨Ext.refl _, rfl⟩
       . intro ev wy hp hl hk hd
         obtain hgc | hgc := p4.eq_false_or_eq_true.symm
         . subst hgc; exact ⟨fun x hx he => (by rw [show x = .bool false from hx] at he; cases he), fun _ _ _ => rfl⟩
         subst hgc
         have e74 : ev _ = .pointer (some ⟨q, 18, none⟩) := hk 74 (by decide)
         refine ⟨fun _ _ _ => ?_, fun _ hx hne => absurd hx hne⟩
         exact Yield.load rfl e74 (ldInt (HM.out.ext hl).at_.votes.2) ⟨Ext.refl _, rfl⟩
       . intro ev wy hp hl hk hd
         obtain hgc | hgc := p4.eq_false_or_eq_true.symm
         . subst hgc; exact ⟨fun x hx he => (by rw [show x = .bool false from hx] at he; cases he), fun _ _ _ => rfl⟩
         subst hgc
         have e75 : ev _ = .int .i64 m.old := hk 75 (by decide)
         refine ⟨fun _ _ _ => ?_, fun _ hx hne => absurd hx hne⟩
         exact Yield.op (v := .bool (m.old == 0)) (w' := wy) (by simp [execOp, go_sem, e75, hp.const]) ⟨Ext.refl _, rfl⟩
       . intro ev wy hp hl hk hd
         obtain hgc | hgc := p4.eq_false_or_eq_true.symm
         . subst hgc; exact ⟨fun x hx he => (by rw [show x = .bool false from hx] at he; cases he), fun _ _ _ => rfl⟩
         subst hgc
         have e70 : ev _ = .func (.func 91) #[] #[.pointer (some ⟨c, 0, none⟩)] := hk 70 (by decide)
         have e73 : ev _ = .bool (decide (0 <= m.old /\ m.old <= 1099511627776)) := hk 73 (by decide)
         have e76 : ev _ = .bool (m.old == 0) := hk 76 (by decide)
         refine ⟨fun _ _ _ => ?_, fun _ hx hne => absurd hx hne⟩
         refine Yield.callf rfl e70 Tryz.func91 rfl (by kernel_rfl) ?_
         simp only [List.map_toArray, List.map_cons, List.map_nil, List.append_toArray, List.cons_append, List.nil_append, hp.const, e73, e76]
         exact (zby _ _ _ _ c _ ((hl.cell (p := ⟨c, 0, none⟩) HCB.out).trans HC.out)).mono fun e w' ⟨he, hE⟩ => ⟨_, he, hE, by rw [HC5.out]; rfl⟩
       . intro ev wy hp hl hk hd
         have e69 : ev _ = _ := hk 69 (by decide)
         have e77 : ev _ = gate p4 (.bool c5) := hk 77 (by decide)
         obtain hgc | hgc : p4 = false \/ p4 = true := by cases p4 <;> simp
         . subst hgc; exact Yield.pick (t := false) rfl e69 ⟨Ext.refl _, by rw [HP5.out]; exact hp.const _⟩
         . subst hgc; exact Yield.pick (t := true) rfl e69 ⟨Ext.refl _, by rw [HP5.out]; exact e77⟩
       . intro ev wy hp hl hk hd
         have e78 : ev _ = _ := hk 78 (by decide)
         exact Yield.mv rfl ⟨Ext.refl _, e78⟩
       . intro ev wy hp hl hk hd
         obtain hgc | hgc := p5.eq_false_or_eq_true.symm
         . subst hgc; exact ⟨fun x hx he => (by rw [show x = .bool false from hx] at he; cases he), fun _ _ _ => rfl⟩
         subst hgc
         have e4 : ev _ = .func (.func 91) #[] #[.pointer (some ⟨c, 0, none⟩)] := hk 4 (by decide)
         refine ⟨fun _ _ _ => ?_, fun _ hx hne => absurd hx hne⟩
         exact Yield.mv rfl ⟨Ext.refl _, e4⟩
       . intro ev wy hp hl hk hd
         obtain hgc | hgc := p5.eq_false_or_eq_true.symm
         . subst hgc; exact ⟨fun x hx he => (by rw [show x = .bool false from hx] at he; cases he), fun _ _ _ => rfl⟩
         subst hgc
         have e1 : ev _ = .pointer (some ⟨q, 0, none⟩) := hk 1 (by decide)
         refine ⟨fun _ _ _ => ?_, fun _ hx hne => absurd hx hne⟩
         exact Yield.op (v := .pointer (some ⟨q, 6, none⟩)) (w' := wy) (by simp [execOp, go_sem, e1]) ⟨Ext.refl _, rfl⟩
       . intro ev wy hp hl hk hd
         obtain hgc | hgc := p5.eq_false_or_eq_true.symm
         . subst hgc; exact ⟨fun x hx he => (by rw [show x = .bool false from hx] at he; cases he), fun _ _ _ => rfl⟩
         subst hgc
         have e81 : ev _ = .pointer (some ⟨q, 6, none⟩) := hk 81 (by decide)
         refine ⟨fun _ _ _ => ?_, fun _ hx hne => absurd hx hne⟩
         exact Yield.load rfl e81 (zs6 (HM.out.ext hl).at_.head.2.2.2.2.2.2) ⟨Ext.refl _, rfl⟩
       . intro ev wy hp hl hk hd
         obtain hgc | hgc := p5.eq_false_or_eq_true.symm
         . subst hgc; exact ⟨fun x hx he => (by rw [show x = .bool false from hx] at he; cases he), fun _ _ _ => rfl⟩
         subst hgc
         have e82 : ev _ = .bool m.is := hk 82 (by decide)
         refine ⟨fun _ _ _ => ?_, fun _ hx hne => absurd hx hne⟩
         exact Yield.op (v := .bool (!m.is)) (w' := wy) (by simp [execOp, go_sem, e82]) ⟨Ext.refl _, rfl⟩
       . intro ev wy hp hl hk hd
         obtain hgc | hgc := p5.eq_false_or_eq_true.symm
         . subst hgc; exact ⟨fun x hx he => (by rw [show x = .bool false from hx] at he; cases he), fun _ _ _ => rfl⟩
         subst hgc
         have e80 : ev _ = .func (.func 91) #[] #[.pointer (some ⟨c, 0, none⟩)] := hk 80 (by decide)
         have e83 : ev _ = .bool (!m.is) := hk 83 (by decide)
         refine ⟨fun _ _ _ => ?_, fun _ hx hne => absurd hx hne⟩
         refine Yield.callf rfl e80 Tryz.func91 rfl (by kernel_rfl) ?_
         simp only [List.map_toArray, List.map_cons, List.map_nil, List.append_toArray, List.cons_append, List.nil_append, hp.const, e83]
         exact (zby _ _ _ _ c _ ((hl.cell (p := ⟨c, 0, none⟩) HCB.out).trans HC.out)).mono fun e w' ⟨he, hE⟩ => ⟨_, he, hE, by rw [HC6.out]; rfl⟩
       . intro ev wy hp hl hk hd
         have e79 : ev _ = _ := hk 79 (by decide)
         have e84 : ev _ = gate p5 (.bool c6) := hk 84 (by decide)
         obtain hgc | hgc : p5 = false \/ p5 = true := by cases p5 <;> simp
         . subst hgc; exact Yield.pick (t := false) rfl e79 ⟨Ext.refl _, by rw [HP6.out]; exact hp.const _⟩
         . subst hgc; exact Yield.pick (t := true) rfl e79 ⟨Ext.refl _, by rw [HP6.out]; exact e84⟩
       . intro ev wy hp hl hk hd
         have e85 : ev _ = _ := hk 85 (by decide)
         exact Yield.mv rfl ⟨Ext.refl _, e85⟩
       . intro ev wy hp hl hk hd
         obtain hgc | hgc := p6.eq_false_or_eq_true.symm
         . subst hgc; exact ⟨fun x hx he => (by rw [show x = .bool false from hx] at he; cases he), fun _ _ _ => rfl⟩
         subst hgc
         have e4 : ev _ = .func (.func 91) #[] #[.pointer (some ⟨c, 0, none⟩)] := hk 4 (by decide)
         refine ⟨fun _ _ _ => ?_, fun _ hx hne => absurd hx hne⟩
         exact Yield.mv rfl ⟨Ext.refl _, e4⟩
       . intro ev wy hp hl hk hd
         obtain hgc | hgc := p6.eq_false_or_eq_true.symm
         . subst hgc; exact ⟨fun x hx he => (by rw [show x = .bool false from hx] at he; cases he), fun _ _ _ => rfl⟩
         subst hgc
         have e1 : ev _ = .pointer (some ⟨q, 0, none⟩) := hk 1 (by decide)
         refine ⟨fun _ _ _ => ?_, fun _ hx hne => absurd hx hne⟩
         exact Yield.op (v := .pointer (some ⟨q, 7, none⟩)) (w' := wy) (by simp [execOp, go_sem, e1]) ⟨Ext.refl _, rfl⟩
       . intro ev wy hp hl hk hd
         obtain hgc | hgc := p6.eq_false_or_eq_true.symm
         . subst hgc; exact ⟨fun x hx he => (by rw [show x = .bool false from hx] at he; cases he), fun _ _ _ => rfl⟩
         subst hgc
         have e88 : ev _ = .pointer (some ⟨q, 7, none⟩) := hk 88 (by decide)
         refine ⟨fun _ _ _ => ?_, fun _ hx hne => absurd hx hne⟩
         exact Yield.load rfl e88 (HM.out.ext hl).ldRec ⟨Ext.refl _, rfl⟩
       . intro ev wy hp hl hk hd
         obtain hgc | hgc := p6.eq_false_or_eq_true.symm
         . subst hgc; exact ⟨fun x hx he => (by rw [show x = .bool false from hx] at he; cases he), fun _ _ _ => rfl⟩
         subst hgc
         have e89 : ev _ = .agg #[.int .i64 m.reco.client, .int .i64 m.reco.number, rt, .string ⟨m.reco.data.toArray⟩] := hk 89 (by decide)
         refine ⟨fun _ _ _ => ?_, fun _ hx hne => absurd hx hne⟩
         refine Yield.call rfl hp Tryz.func92 rfl (by kernel_rfl) ?_
         simp only [List.map_toArray, List.map_cons, List.map_nil, e89]
         exact ((zlr _ m.reco _ (HM.out.ext hl).isRec)).mono fun _ _ ⟨he, hb⟩ => ⟨_, he, hb, by first | rfl | simp⟩
       . intro ev wy hp hl hk hd
         obtain hgc | hgc := p6.eq_false_or_eq_true.symm
         . subst hgc; exact ⟨fun x hx he => (by rw [show x = .bool false from hx] at he; cases he), fun _ _ _ => rfl⟩
         subst hgc
         have e1 : ev _ = .pointer (some ⟨q, 0, none⟩) := hk 1 (by decide)
         refine ⟨fun _ _ _ => ?_, fun _ hx hne => absurd hx hne⟩
         exact Yield.op (v := .pointer (some ⟨q, 7, none⟩)) (w' := wy) (by simp [execOp, go_sem, e1]) ⟨Ext.refl _, rfl⟩
       . intro ev wy hp hl hk hd
         obtain hgc | hgc := p6.eq_false_or_eq_true.symm
         . subst hgc; exact ⟨fun x hx he => (by rw [show x = .bool false from hx] at he; cases he), fun _ _ _ => rfl⟩
         subst hgc
         have e91 : ev _ = .pointer (some ⟨q, 7, none⟩) := hk 91 (by decide)
         refine ⟨fun _ _ _ => ?_, fun _ hx hne => absurd hx hne⟩
         exact Yield.load rfl e91 (HM.out.ext hl).ldRec ⟨Ext.refl _, rfl⟩
       . intro ev wy hp hl hk hd
         obtain hgc | hgc := p6.eq_false_or_eq_true.symm
         . subst hgc; exact ⟨fun x hx he => (by rw [show x = .bool false from hx] at he; cases he), fun _ _ _ => rfl⟩
         subst hgc
         refine ⟨fun _ _ _ => ?_, fun _ hx hne => absurd hx hne⟩
         exact Yield.op (v := .agg #[.int .i64 0, .int .i64 0, .slice none 0 0, .string ⟨#[]⟩]) (w' := wy) (by simp [execOp, go_sem, zl9]) ⟨Ext.refl _, rfl⟩
       . intro ev wy hp hl hk hd
         obtain hgc | hgc := p6.eq_false_or_eq_true.symm
         . subst hgc; exact ⟨fun x hx he => (by rw [show x = .bool false from hx] at he; cases he), fun _ _ _ => rfl⟩
         subst hgc
         have e92 : ev _ = .agg #[.int .i64 m.reco.client, .int .i64 m.reco.number, rt, .string ⟨m.reco.data.toArray⟩] := hk 92 (by decide)
         have e93 : ev _ = .agg #[.int .i64 0, .int .i64 0, .slice none 0 0, .string ⟨#[]⟩] := hk 93 (by decide)
         refine ⟨fun _ _ _ => ?_, fun _ hx hne => absurd hx hne⟩
         refine Yield.call rfl hp Tryz.func93 rfl (by kernel_rfl) ?_
         simp only [List.map_toArray, List.map_cons, List.map_nil, e92, e93]
         exact ((zpz _ _ m.reco Msg.rec0 _ (HM.out.ext hl).isRec (ztn _))).mono fun _ _ ⟨he, hb⟩ => ⟨_, he, hb, by first | rfl | simp⟩
       . intro ev wy hp hl hk hd
         obtain hgc | hgc := p6.eq_false_or_eq_true.symm
         . subst hgc; exact ⟨fun x hx he => (by rw [show x = .bool false from hx] at he; cases he), fun _ _ _ => rfl⟩
         subst hgc
         have e87 : ev _ = .func (.func 91) #[] #[.pointer (some ⟨c, 0, none⟩)] := hk 87 (by decide)
         have e90 : ev _ = .bool (Rec.right m.reco) := hk 90 (by decide)
         have e94 : ev _ = .bool (Rec.same m.reco Msg.rec0) := hk 94 (by decide)
         refine ⟨fun _ _ _ => ?_, fun _ hx hne => absurd hx hne⟩
         refine Yield.callf rfl e87 Tryz.func91 rfl (by kernel_rfl) ?_
         simp only [List.map_toArray, List.map_cons, List.map_nil, List.append_toArray, List.cons_append, List.nil_append, hp.const, e90, e94]
         exact (zby _ _ _ _ c _ ((hl.cell (p := ⟨c, 0, none⟩) HCB.out).trans HC.out)).mono fun e w' ⟨he, hE⟩ => ⟨_, he, hE, by rw [HC7.out]; rfl⟩
       . intro ev wy hp hl hk hd
         have e86 : ev _ = _ := hk 86 (by decide)
         have e95 : ev _ = gate p6 (.bool c7) := hk 95 (by decide)
         obtain hgc | hgc : p6 = false \/ p6 = true := by cases p6 <;> simp
         . subst hgc; exact Yield.pick (t := false) rfl e86 ⟨Ext.refl _, by rw [HP7.out]; exact hp.const _⟩
         . subst hgc; exact Yield.pick (t := true) rfl e86 ⟨Ext.refl _, by rw [HP7.out]; exact e95⟩
       . intro ev wy hp hl hk hd
         have e96 : ev _ = _ := hk 96 (by decide)
         exact Yield.mv rfl ⟨Ext.refl _, e96⟩
       . intro ev wy hp hl hk hd
         obtain hgc | hgc := p7.eq_false_or_eq_true.symm
         . subst hgc; exact ⟨fun x hx he => (by rw [show x = .bool false from hx] at he; cases he), fun _ _ _ => rfl⟩
         subst hgc
         have e4 : ev _ = .func (.func 91) #[] #[.pointer (some ⟨c, 0, none⟩)] := hk 4 (by decide)
         refine ⟨fun _ _ _ => ?_, fun _ hx hne => absurd hx hne⟩
         exact Yield.mv rfl ⟨Ext.refl _, e4⟩
       . intro ev wy hp hl hk hd
         obtain hgc | hgc := p7.eq_false_or_eq_true.symm
         . subst hgc; exact ⟨fun x hx he => (by rw [show x = .bool false from hx] at he; cases he), fun _ _ _ => rfl⟩
         subst hgc
         have e1 : ev _ = .pointer (some ⟨q, 0, none⟩) := hk 1 (by decide)
         refine ⟨fun _ _ _ => ?_, fun _ hx hne => absurd hx hne⟩
         exact Yield.op (v := .pointer (some ⟨q, 19, none⟩)) (w' := wy) (by simp [execOp, go_sem, e1]) ⟨Ext.refl _, rfl⟩
       . intro ev wy hp hl hk hd
         obtain hgc | hgc := p7.eq_false_or_eq_true.symm
         . subst hgc; exact ⟨fun x hx he => (by rw [show x = .bool false from hx] at he; cases he), fun _ _ _ => rfl⟩
         subst hgc
         have e99 : ev _ = .pointer (some ⟨q, 19, none⟩) := hk 99 (by decide)
         refine ⟨fun _ _ _ => ?_, fun _ hx hne => absurd hx hne⟩
         exact Yield.load rfl e99 ((HM.out.ext hl).ldConf _ (.inl rfl)) ⟨Ext.refl _, rfl⟩
       . intro ev wy hp hl hk hd
         obtain hgc | hgc := p7.eq_false_or_eq_true.symm
         . subst hgc; exact ⟨fun x hx he => (by rw [show x = .bool false from hx] at he; cases he), fun _ _ _ => rfl⟩
         subst hgc
         have e100 : ev _ = .agg #[.int .i64 m.conf.term, sv, dv] := hk 100 (by decide)
         refine ⟨fun _ _ _ => ?_, fun _ hx hne => absurd hx hne⟩
         refine Yield.call rfl hp Tryz.func30 rfl (by kernel_rfl) ?_
         simp only [List.map_toArray, List.map_cons, List.map_nil, e100]
         exact ((HCR.out _ (HM.out.ext hl).isConf)).mono fun _ _ ⟨he, hb⟩ => ⟨_, he, hb, by first | rfl | simp⟩
       . intro ev wy hp hl hk hd
         obtain hgc | hgc := p7.eq_false_or_eq_true.symm
         . subst hgc; exact ⟨fun x hx he => (by rw [show x = .bool false from hx] at he; cases he), fun _ _ _ => rfl⟩
         subst hgc
         have e101 : ev _ = .bool cr := hk 101 (by decide)
         refine ⟨fun _ _ _ => ?_, fun _ hx hne => absurd hx hne⟩
         exact Yield.mv rfl ⟨Ext.refl _, e101⟩
       . intro ev wy hp hl hk hd
         obtain hgc | hgc := p7.eq_false_or_eq_true.symm
         . subst hgc; exact ⟨fun x hx he => (by rw [show x = undef from hx] at he; cases he), fun _ _ _ => rfl⟩
         subst hgc
         obtain hgc | hgc := cr.eq_false_or_eq_true.symm
         . subst hgc; exact ⟨fun x hx he => (by rw [show x = .bool false from hx] at he; cases he), fun _ _ _ => rfl⟩
         subst hgc
         have e1 : ev _ = .pointer (some ⟨q, 0, none⟩) := hk 1 (by decide)
         refine ⟨fun _ _ _ => ?_, fun _ hx hne => absurd hx hne⟩
         exact Yield.op (v := .pointer (some ⟨q, 19, none⟩)) (w' := wy) (by simp [execOp, go_sem, e1]) ⟨Ext.refl _, rfl⟩
       . intro ev wy hp hl hk hd
         obtain hgc | hgc := p7.eq_false_or_eq_true.symm
         . subst hgc; exact ⟨fun x hx he => (by rw [show x = undef from hx] at he; cases he), fun _ _ _ => rfl⟩
         subst hgc
         obtain hgc | hgc := cr.eq_false_or_eq_true.symm
         . subst hgc; exact ⟨fun x hx he => (by rw [show x = .bool false from hx] at he; cases he), fun _ _ _ => rfl⟩
         subst hgc
         have e103 : ev _ = .pointer (some ⟨q, 19, none⟩) := hk 103 (by decide)
         refine ⟨fun _ _ _ => ?_, fun _ hx hne => absurd hx hne⟩
         exact Yield.op (v := .pointer (some ⟨q, 19, none⟩)) (w' := wy) (by simp [execOp, go_sem, e103]) ⟨Ext.refl _, rfl⟩
       . intro ev wy hp hl hk hd
         obtain hgc | hgc := p7.eq_false_or_eq_true.symm
         . subst hgc; exact ⟨fun x hx he => (by rw [show x = undef from hx] at he; cases he), fun _ _ _ => rfl⟩
         subst hgc
         obtain hgc | hgc := cr.eq_false_or_eq_true.symm
         . subst hgc; exact ⟨fun x hx he => (by rw [show x = .bool false from hx] at he; cases he), fun _ _ _ => rfl⟩
         subst hgc
         have e104 : ev _ = .pointer (some ⟨q, 19, none⟩) := hk 104 (by decide)
         refine ⟨fun _ _ _ => ?_, fun _ hx hne => absurd hx hne⟩
         exact Yield.load rfl e104 (ldInt (HM.out.ext hl).at_.conf.1) ⟨Ext.refl _, rfl⟩
       . intro ev wy hp hl hk hd
         obtain hgc | hgc := p7.eq_false_or_eq_true.symm
         . subst hgc; exact ⟨fun x hx he => (by rw [show x = undef from hx] at he; cases he), fun _ _ _ => rfl⟩
         subst hgc
         obtain hgc | hgc := cr.eq_false_or_eq_true.symm
         . subst hgc; exact ⟨fun x hx he => (by rw [show x = .bool false from hx] at he; cases he), fun _ _ _ => rfl⟩
         subst hgc
         have e1 : ev _ = .pointer (some ⟨q, 0, none⟩) := hk 1 (by decide)
         refine ⟨fun _ _ _ => ?_, fun _ hx hne => absurd hx hne⟩
         exact Yield.op (v := .pointer (some ⟨q, 3, none⟩)) (w' := wy) (by simp [execOp, go_sem, e1]) ⟨Ext.refl _, rfl⟩
       . intro ev wy hp hl hk hd
         obtain hgc | hgc := p7.eq_false_or_eq_true.symm
         . subst hgc; exact ⟨fun x hx he => (by rw [show x = undef from hx] at he; cases he), fun _ _ _ => rfl⟩
         subst hgc
         obtain hgc | hgc := cr.eq_false_or_eq_true.symm
         . subst hgc; exact ⟨fun x hx he => (by rw [show x = .bool false from hx] at he; cases he), fun _ _ _ => rfl⟩
         subst hgc
         have e106 : ev _ = .pointer (some ⟨q, 3, none⟩) := hk 106 (by decide)
         refine ⟨fun _ _ _ => ?_, fun _ hx hne => absurd hx hne⟩
         exact Yield.load rfl e106 (ldInt (HM.out.ext hl).at_.head.2.2.2.1) ⟨Ext.refl _, rfl⟩
       . intro ev wy hp hl hk hd
         obtain hgc | hgc := p7.eq_false_or_eq_true.symm
         . subst hgc; exact ⟨fun x hx he => (by rw [show x = undef from hx] at he; cases he), fun _ _ _ => rfl⟩
         subst hgc
         obtain hgc | hgc := cr.eq_false_or_eq_true.symm
         . subst hgc; exact ⟨fun x hx he => (by rw [show x = .bool false from hx] at he; cases he), fun _ _ _ => rfl⟩
         subst hgc
         have e105 : ev _ = .int .i64 m.conf.term := hk 105 (by decide)
         have e107 : ev _ = .int .i64 m.term := hk 107 (by decide)
         refine ⟨fun _ _ _ => ?_, fun _ hx hne => absurd hx hne⟩
         exact Yield.op (v := .bool (m.conf.term == m.term)) (w' := wy) (by simp [execOp, go_sem, e105, e107]) ⟨Ext.refl _, rfl⟩
       . intro ev wy hp hl hk hd
         obtain hgc | hgc := p7.eq_false_or_eq_true.symm
         . subst hgc; exact ⟨fun x hx he => (by rw [show x = .bool false from hx] at he; cases he), fun _ _ _ => rfl⟩
         subst hgc
         have e102 : ev _ = .bool cr := hk 102 (by decide)
         have e108 : ev _ = gate cr (.bool (m.conf.term == m.term)) := hk 108 (by decide)
         refine ⟨fun _ _ _ => ?_, fun _ hx hne => absurd hx hne⟩
         obtain hgd | hgd : cr = false \/ cr = true := by cases cr <;> simp
         . subst hgd; exact Yield.pick (t := false) rfl e102 ⟨Ext.refl _, by rw [HCW.out]; exact hp.const _⟩
         . subst hgd; exact Yield.pick (t := true) rfl e102 ⟨Ext.refl _, by rw [HCW.out]; exact e108⟩
       . intro ev wy hp hl hk hd
         obtain hgc | hgc := p7.eq_false_or_eq_true.symm
         . subst hgc; exact ⟨fun x hx he => (by rw [show x = .bool false from hx] at he; cases he), fun _ _ _ => rfl⟩
         subst hgc
         have e1 : ev _ = .pointer (some ⟨q, 0, none⟩) := hk 1 (by decide)
         refine ⟨fun _ _ _ => ?_, fun _ hx hne => absurd hx hne⟩
         exact Yield.op (v := .pointer (some ⟨q, 19, none⟩)) (w' := wy) (by simp [execOp, go_sem, e1]) ⟨Ext.refl _, rfl⟩
       . intro ev wy hp hl hk hd
         obtain hgc | hgc := p7.eq_false_or_eq_true.symm
         . subst hgc; exact ⟨fun x hx he => (by rw [show x = .bool false from hx] at he; cases he), fun _ _ _ => rfl⟩
         subst hgc
         have e110 : ev _ = .pointer (some ⟨q, 19, none⟩) := hk 110 (by decide)
         refine ⟨fun _ _ _ => ?_, fun _ hx hne => absurd hx hne⟩
         exact Yield.load rfl e110 ((HM.out.ext hl).ldConf _ (.inl rfl)) ⟨Ext.refl _, rfl⟩
       . intro ev wy hp hl hk hd
         obtain hgc | hgc := p7.eq_false_or_eq_true.symm
         . subst hgc; exact ⟨fun x hx he => (by rw [show x = .bool false from hx] at he; cases he), fun _ _ _ => rfl⟩
         subst hgc
         refine ⟨fun _ _ _ => ?_, fun _ hx hne => absurd hx hne⟩
         exact Yield.op (v := .agg #[.int .i64 0, .slice none 0 0, .slice none 0 0]) (w' := wy) (by simp [execOp, go_sem, zjx]) ⟨Ext.refl _, rfl⟩
       . intro ev wy hp hl hk hd
         obtain hgc | hgc := p7.eq_false_or_eq_true.symm
         . subst hgc; exact ⟨fun x hx he => (by rw [show x = .bool false from hx] at he; cases he), fun _ _ _ => rfl⟩
         subst hgc
         have e111 : ev _ = .agg #[.int .i64 m.conf.term, sv, dv] := hk 111 (by decide)
         have e112 : ev _ = .agg #[.int .i64 0, .slice none 0 0, .slice none 0 0] := hk 112 (by decide)
         refine ⟨fun _ _ _ => ?_, fun _ hx hne => absurd hx hne⟩
         refine Yield.call rfl hp Tryz.func94 rfl (by kernel_rfl) ?_
         simp only [List.map_toArray, List.map_cons, List.map_nil, e111, e112]
         exact ((znz _ _ m.conf Msg.conf0 _ (HM.out.ext hl).isConf (zss _))).mono fun _ _ ⟨he, hb⟩ => ⟨_, he, hb, by first | rfl | simp⟩
       . intro ev wy hp hl hk hd
         obtain hgc | hgc := p7.eq_false_or_eq_true.symm
         . subst hgc; exact ⟨fun x hx he => (by rw [show x = .bool false from hx] at he; cases he), fun _ _ _ => rfl⟩
         subst hgc
         have e98 : ev _ = .func (.func 91) #[] #[.pointer (some ⟨c, 0, none⟩)] := hk 98 (by decide)
         have e109 : ev _ = .bool cw := hk 109 (by decide)
         have e113 : ev _ = .bool (Term.alike m.conf Msg.conf0) := hk 113 (by decide)
         refine ⟨fun _ _ _ => ?_, fun _ hx hne => absurd hx hne⟩
         refine Yield.callf rfl e98 Tryz.func91 rfl (by kernel_rfl) ?_
         simp only [List.map_toArray, List.map_cons, List.map_nil, List.append_toArray, List.cons_append, List.nil_append, hp.const, e109, e113]
         exact (zby _ _ _ _ c _ ((hl.cell (p := ⟨c, 0, none⟩) HCB.out).trans HC.out)).mono fun e w' ⟨he, hE⟩ => ⟨_, he, hE, by rw [HC8.out]; rfl⟩
       . intro ev wy hp hl hk hd
         have e97 : ev _ = _ := hk 97 (by decide)
         have e114 : ev _ = gate p7 (.bool c8) := hk 114 (by decide)
         obtain hgc | hgc : p7 = false \/ p7 = true := by cases p7 <;> simp
         . subst hgc; exact Yield.pick (t := false) rfl e97 ⟨Ext.refl _, by rw [HP8.out]; exact hp.const _⟩
         . subst hgc; exact Yield.pick (t := true) rfl e97 ⟨Ext.refl _, by rw [HP8.out]; exact e114⟩
       . intro ev wy hp hl hk hd
         have e115 : ev _ = _ := hk 115 (by decide)
         exact Yield.as rfl ⟨Ext.refl _, e115⟩
     . intro vals wz hz hv
       have g30 : vals 0 = _ := hv 0 (by decide)
       have g31 : vals 1 = _ := hv 1 (by decide)
       have g32 : vals 2 = _ := hv 2 (by decide)
       have g33 : vals 3 = _ := hv 3 (by decide)
       have g34 : vals 4 = _ := hv 4 (by decide)
       have g35 : vals 5 = _ := hv 5 (by decide)
       have g36 : vals 6 = _ := hv 6 (by decide)
       have g37 : vals 7 = _ := hv 7 (by decide)
       have g38 : vals 8 = _ := hv 8 (by decide)
       have g39 : vals 9 = _ := hv 9 (by decide)
       have g40 : vals 10 = _ := hv 10 (by decide)
       have g41 : vals 11 = _ := hv 11 (by decide)
       have g42 : vals 12 = _ := hv 12 (by decide)
       have g43 : vals 13 = _ := hv 13 (by decide)
       have g44 : vals 14 = _ := hv 14 (by decide)
       have g45 : vals 15 = _ := hv 15 (by decide)
       have g46 : vals 16 = _ := hv 16 (by decide)
       have g47 : vals 17 = _ := hv 17 (by decide)
       have g48 : vals 18 = _ := hv 18 (by decide)
       have g49 : vals 19 = _ := hv 19 (by decide)
       have g50 : vals 20 = _ := hv 20 (by decide)
       have g51 : vals 21 = _ := hv 21 (by decide)
       have g52 : vals 22 = _ := hv 22 (by decide)
       have g53 : vals 23 = _ := hv 23 (by decide)
       have g54 : vals 24 = _ := hv 24 (by decide)
       have g55 : vals 25 = _ := hv 25 (by decide)
       have g56 : vals 26 = _ := hv 26 (by decide)
       have g57 : vals 27 = _ := hv 27 (by decide)
       have g58 : vals 28 = _ := hv 28 (by decide)
       have g59 : vals 29 = _ := hv 29 (by decide)
       have g60 : vals 30 = _ := hv 30 (by decide)
       have g61 : vals 31 = _ := hv 31 (by decide)
       have g62 : vals 32 = _ := hv 32 (by decide)
       have g63 : vals 33 = _ := hv 33 (by decide)
       have g64 : vals 34 = _ := hv 34 (by decide)
       have g65 : vals 35 = _ := hv 35 (by decide)
       have g66 : vals 36 = _ := hv 36 (by decide)
       have g67 : vals 37 = _ := hv 37 (by decide)
       have g68 : vals 38 = _ := hv 38 (by decide)
       have g69 : vals 39 = _ := hv 39 (by decide)
       have g70 : vals 40 = _ := hv 40 (by decide)
       have g71 : vals 41 = _ := hv 41 (by decide)
       have g72 : vals 42 = _ := hv 42 (by decide)
       have g73 : vals 43 = _ := hv 43 (by decide)
       have g74 : vals 44 = _ := hv 44 (by decide)
       have g75 : vals 45 = _ := hv 45 (by decide)
       have g76 : vals 46 = _ := hv 46 (by decide)
       have g77 : vals 47 = _ := hv 47 (by decide)
       have g78 : vals 48 = _ := hv 48 (by decide)
       have g79 : vals 49 = _ := hv 49 (by decide)
       have g80 : vals 50 = _ := hv 50 (by decide)
       have g81 : vals 51 = _ := hv 51 (by decide)
       have g82 : vals 52 = _ := hv 52 (by decide)
       have g83 : vals 53 = _ := hv 53 (by decide)
       have g84 : vals 54 = _ := hv 54 (by decide)
       have g85 : vals 55 = _ := hv 55 (by decide)
       have g86 : vals 56 = _ := hv 56 (by decide)
       have g87 : vals 57 = _ := hv 57 (by decide)
       have g88 : vals 58 = _ := hv 58 (by decide)
       have g89 : vals 59 = _ := hv 59 (by decide)
       have g90 : vals 60 = _ := hv 60 (by decide)
       have g91 : vals 61 = _ := hv 61 (by decide)
       have g92 : vals 62 = _ := hv 62 (by decide)
       have g93 : vals 63 = _ := hv 63 (by decide)
       have g94 : vals 64 = _ := hv 64 (by decide)
       have g95 : vals 65 = _ := hv 65 (by decide)
       have g96 : vals 66 = _ := hv 66 (by decide)
       have g97 : vals 67 = _ := hv 67 (by decide)
       have g98 : vals 68 = _ := hv 68 (by decide)
       have g99 : vals 69 = _ := hv 69 (by decide)
       have g100 : vals 70 = _ := hv 70 (by decide)
       have g101 : vals 71 = _ := hv 71 (by decide)
       have g102 : vals 72 = _ := hv 72 (by decide)
       have g103 : vals 73 = _ := hv 73 (by decide)
       have g104 : vals 74 = _ := hv 74 (by decide)
       have g105 : vals 75 = _ := hv 75 (by decide)
       have g106 : vals 76 = _ := hv 76 (by decide)
       have g107 : vals 77 = _ := hv 77 (by decide)
       have g108 : vals 78 = _ := hv 78 (by decide)
       have g109 : vals 79 = _ := hv 79 (by decide)
       have g110 : vals 80 = _ := hv 80 (by decide)
       have g111 : vals 81 = _ := hv 81 (by decide)
       have g112 : vals 82 = _ := hv 82 (by decide)
       have g113 : vals 83 = _ := hv 83 (by decide)
       have g114 : vals 84 = _ := hv 84 (by decide)
       have g115 : vals 85 = _ := hv 85 (by decide)
       have g2 : vals 86 = _ := hv 86 (by decide)
       clear hv
       simp only [List.append_eq, List.cons_append, List.nil_append]
       simp only [zar, Act.put, List.setIfInBounds_toArray, List.set_cons_zero, List.set_cons_succ, g30, g31, g32, g33, g34, g35, g36, g37, g38, g39, g40, g41, g42, g43, g44, g45, g46, g47, g48, g49, g50, g51, g52, g53, g54, g55, g56, g57, g58, g59, g60, g61, g62, g63, g64, g65, g66, g67, g68, g69, g70, g71, g72, g73, g74, g75, g76, g77, g78, g79, g80, g81, g82, g83, g84, g85, g86, g87, g88, g89, g90, g91, g92, g93, g94, g95, g96, g97, g98, g99, g100, g101, g102, g103, g104, g105, g106, g107, g108, g109, g110, g111, g112, g113, g114, g115, g2]
       clear g30 g31 g32 g33 g34 g35 g36 g37 g38 g39 g40 g41 g42 g43 g44 g45 g46 g47 g48 g49 g50 g51 g52 g53 g54 g55 g56 g57 g58 g59 g60 g61 g62 g63 g64 g65 g66 g67 g68 g69 g70 g71 g72 g73 g74 g75 g76 g77 g78 g79 g80 g81 g82 g83 g84 g85 g86 g87 g88 g89 g90 g91 g92 g93 g94 g95 g96 g97 g98 g99 g100 g101 g102 g103 g104 g105 g106 g107 g108 g109 g110 g111 g112 g113 g114 g115 g2
       clear HP1 HP2 HP3 HP4 HP5 HP6 HP7 HP8 HC2 HC3 HC4 HC5 HC6 HC7 HC8 HCW HCR HC HCB HM
       go_wp2_with fail
       go_ret
       exact ⟨by rw [<- HZ.out]; rfl, hE3.trans hz⟩
section
variable {ops : Array Oper} {rest : List Oper} {op : Oper} {a : Act} {w : World} {Q : Exit -> Act -> World -> Prop}
end
end Go.Proofs.YtnoeconcpgdjlaaGreat
namespace Go.Proofs.YtnoeconcpgdjlaaGreat
set_option linter.unusedSimpArgs false
set_option linter.unusedVariables false
set_option maxRecDepth 100000
open Go.ChangeShapes Go.WideShapes Go.ChangeAt Go.RowKit
section
variable {H : Type} {enc : TypeId × Value -> H} {w : World} {base : Nat} {spare : Nat -> Bool} {held : Bool}
end
end Go.Proofs.YtnoeconcpgdjlaaGreat
