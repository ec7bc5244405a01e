/-
  Merged: Layer 7, mathematics: messages as bytes and back; Layer 6, mathematics: bytes as configurations, read part by part, each up to some bound: whatever the bounds are (great enough), the same are read; Layer 5, mathematics: the last cut by a walk from behind.
-/
import Derived.Test.YtaijgpdlgcgfaaaGreatBsMath

set_option linter.unusedSimpArgs false
set_option linter.unusedVariables false

/- Layer 7, mathematics: messages as bytes and back; no program. -/
namespace Go.Proofs.YtaijgpdlgcgfaaaGreat.Msg

structure M where
  kind : Int
  src : Int
  dst : Int
  term : Int
  shard : Int
  number : Int
  is : Bool
  reco : Rec.R
  ent : Ent.E
  ballot : Int
  old : Int
  conf : Term.C

def rec0 : Rec.R := ⟨0, 0, [], []⟩
def ent0 : Ent.E := ⟨0, 0, [], 0, 0, 0⟩
def conf0 : Term.C := ⟨0, [], []⟩
def none0 : M := ⟨0, 0, 0, 0, 0, 0, false, rec0, ent0, 0, 0, conf0⟩

def headOk (m : M) : Bool := decide ((0 ≤ m.src ∧ m.src ≤ 15) ∧ (0 ≤ m.dst ∧ m.dst ≤ 15) ∧ (1 ≤ m.term ∧ m.term ≤ 64) ∧ (0 ≤ m.number ∧ m.number ≤ 1099511627776) ∧ 0 ≤ m.shard ∧ m.shard ≤ 7)
def quiet (m : M) : Bool := decide (m.ballot = 0 ∧ m.old = 0)
def plain (m : M) (r e c : Bool) : Bool := (r || Rec.same m.reco rec0) && ((e || Ent.alike m.ent ent0) && (c || Term.alike m.conf conf0))
def votes (m : M) : Bool := decide ((1 ≤ m.ballot ∧ m.ballot ≤ 1099511627776) ∧ m.shard = 0 ∧ m.number = 0)
def withConf (m : M) : Bool := Term.right m.conf && decide (m.conf.term = m.term)
def kindOk (m : M) : Bool :=
  if m.kind = 1 then quiet m && (!m.is && (plain m true false false && Rec.right m.reco))
  else if m.kind = 2 then quiet m && (!m.is && plain m false false false)
  else if m.kind = 3 then quiet m && (!m.is && (decide (m.shard = 0 ∧ m.number = 0) && (plain m false true false && Ent.right m.ent)))
  else if m.kind = 4 ∨ m.kind = 6 then quiet m && (decide (m.shard = 0) && plain m false false false)
  else if m.kind = 5 then quiet m && (!m.is && (decide (m.shard = 0 ∧ m.number = 0) && plain m false false false))
  else if m.kind = 7 then votes m && (decide (m.old = 0) && (!m.is && plain m false false false))
  else if m.kind = 8 then votes m && (!m.is && (decide (0 ≤ m.old ∧ m.old ≤ 1099511627776) && (if m.old = 0 then plain m false false false else plain m false false true && withConf m)))
  else if m.kind = 9 then votes m && (decide (m.old = 0) && (!m.is && (plain m false false true && withConf m)))
  else if m.kind = 10 then votes m && (decide (m.old = 0) && plain m false false false)
  else false
def right (m : M) : Bool := headOk m && kindOk m

/-! As bytes. -/
def num (n : Int) : List UInt8 := Pack.num n.toNat
def textOf (l : List UInt8) : List UInt8 := Pack.num l.length ++ l
def boolOf : Bool → List UInt8
  | true => [1]
  | false => [0]
def parts (m : M) : List UInt8 :=
  if m.kind = 1 then num m.shard ++ (num m.number ++ textOf (Rec.enc m.reco))
  else if m.kind = 2 then num m.shard ++ num m.number
  else if m.kind = 3 then textOf (Ent.enc m.ent)
  else if m.kind = 4 ∨ m.kind = 6 then num m.number ++ boolOf m.is
  else if m.kind = 7 then num m.ballot
  else if m.kind = 8 then (if m.old = 0 then num m.ballot ++ [0] else num m.ballot ++ (num m.old ++ textOf (Term.enc m.conf)))
  else if m.kind = 9 then num m.ballot ++ textOf (Term.enc m.conf)
  else if m.kind = 10 then num m.ballot ++ boolOf m.is
  else []
def text (m : M) : List UInt8 := num m.kind ++ (num m.src ++ (num m.dst ++ (num m.term ++ parts m)))
def enc (m : M) : List UInt8 := text m ++ Crc.low (Crc.sum (text m))

/-! What is read, part by part. -/
def most : Int := 1099511627776
def optNum (c : Bool) (s : Pack.St) : Pack.St × Nat := if c then s.num most else (s, 0)
def optBool (c : Bool) (s : Pack.St) : Pack.St × Bool := if c then s.bool else (s, false)
def optText (c : Bool) (s : Pack.St) : Pack.St × List UInt8 := if c then s.text 65536 else (s, [])
def stK (l : List UInt8) : Pack.St × Nat := Pack.St.num ⟨l, 0⟩ most
def stS (l : List UInt8) : Pack.St × Nat := (stK l).1.num most
def stD (l : List UInt8) : Pack.St × Nat := (stS l).1.num most
def stT (l : List UInt8) : Pack.St × Nat := (stD l).1.num most
def k (l : List UInt8) : Nat := (stK l).2
def stShard (l : List UInt8) : Pack.St × Nat := optNum (decide (k l = 1 ∨ k l = 2)) (stT l).1
def stNumber (l : List UInt8) : Pack.St × Nat := optNum (decide (k l = 1 ∨ k l = 2 ∨ k l = 4 ∨ k l = 6)) (stShard l).1
def stBallot (l : List UInt8) : Pack.St × Nat := optNum (decide (7 ≤ k l ∧ k l ≤ 10)) (stNumber l).1
def stOld (l : List UInt8) : Pack.St × Nat := optNum (decide (k l = 8)) (stBallot l).1
def stIs (l : List UInt8) : Pack.St × Bool := optBool (decide (k l = 4 ∨ k l = 6 ∨ k l = 10)) (stOld l).1
def stText (l : List UInt8) : Pack.St × List UInt8 := optText (decide (k l = 1 ∨ k l = 3 ∨ k l = 9 ∨ (k l = 8 ∧ (stOld l).2 ≠ 0))) (stIs l).1
def recOf (l : List UInt8) : Rec.R := if k l = 1 then (Rec.dec (stText l).2).getD rec0 else rec0
def entOf (vd : List UInt8 → List Int) (l : List UInt8) : Ent.E := if k l = 3 then (Ent.dec vd (stText l).2).getD ent0 else ent0
def confOf (l : List UInt8) : Term.C := if k l = 9 ∨ (k l = 8 ∧ (stOld l).2 ≠ 0) then (Term.dec (stText l).2).getD conf0 else conf0
def read (vd : List UInt8 → List Int) (l : List UInt8) : M := ⟨k l, (stS l).2, (stD l).2, (stT l).2, (stShard l).2, (stNumber l).2, (stIs l).2, recOf l, entOf vd l, (stBallot l).2, (stOld l).2, confOf l⟩

theorem read_n {n : Int} (h0 : 0 ≤ n) (h1 : n ≤ 1099511627776) (r : List UInt8) : Pack.St.num ⟨num n ++ r, 0⟩ most = (⟨r, 0⟩, n.toNat) :=
  Pack.read_num _ _ _ _ (by omega) (by unfold most; omega)
theorem read_last {n : Int} (h0 : 0 ≤ n) (h1 : n ≤ 1099511627776) : Pack.St.num ⟨num n, 0⟩ most = (⟨[], 0⟩, n.toNat) := by
  have := read_n h0 h1 []
  rwa [List.append_nil] at this
theorem read_t {l : List UInt8} (h : l.length ≤ 65536) : Pack.St.text ⟨textOf l, 0⟩ 65536 = (⟨[], 0⟩, l) := by
  unfold Pack.St.text textOf
  rw [Pack.read_num _ _ _ _ (by omega) (by omega)]
  simp
theorem read_b (b : Bool) : Pack.St.bool ⟨boolOf b, 0⟩ = (⟨[], 0⟩, b) := by cases b <;> rfl
theorem toNat_back {n : Int} (h : 0 ≤ n) : ((n.toNat : Nat) : Int) = n := by omega
theorem head_ok {m : M} (h : headOk m = true) : (0 ≤ m.src ∧ m.src ≤ 15) ∧ (0 ≤ m.dst ∧ m.dst ≤ 15) ∧ (1 ≤ m.term ∧ m.term ≤ 64) ∧ (0 ≤ m.number ∧ m.number ≤ 1099511627776) ∧ 0 ≤ m.shard ∧ m.shard ≤ 7 := of_decide_eq_true h

/-- Of the head, what is read, and what is behind it. -/
theorem read_head {m : M} (hk : 0 ≤ m.kind ∧ m.kind ≤ 10) (h : headOk m = true) : (k (text m) : Int) = m.kind ∧ ((stS (text m)).2 : Int) = m.src ∧ ((stD (text m)).2 : Int) = m.dst ∧ ((stT (text m)).2 : Int) = m.term ∧ (stT (text m)).1 = ⟨parts m, 0⟩ := by
  obtain ⟨h1, h2, h3, h4, h5⟩ := head_ok h
  have hK : stK (text m) = (⟨num m.src ++ (num m.dst ++ (num m.term ++ parts m)), 0⟩, m.kind.toNat) := read_n hk.1 (by omega) _
  have hS : stS (text m) = (⟨num m.dst ++ (num m.term ++ parts m), 0⟩, m.src.toNat) := by unfold stS; rw [hK]; exact read_n h1.1 (by omega) _
  have hD : stD (text m) = (⟨num m.term ++ parts m, 0⟩, m.dst.toNat) := by unfold stD; rw [hS]; exact read_n h2.1 (by omega) _
  have hT : stT (text m) = (⟨parts m, 0⟩, m.term.toNat) := by unfold stT; rw [hD]; exact read_n (by omega) (by omega) _
  unfold k
  rw [hK, hS, hD, hT]
  exact ⟨toNat_back hk.1, toNat_back h1.1, toNat_back h2.1, toNat_back (by omega), rfl⟩
theorem kind_in {m : M} (h : right m = true) : 1 ≤ m.kind ∧ m.kind ≤ 10 := by
  unfold right at h
  rw [Bool.and_eq_true] at h
  have h2 := h.2
  unfold kindOk at h2
  by_cases a : 1 ≤ m.kind ∧ m.kind ≤ 10
  · exact a
  · iterate 9 rw [if_neg (by omega)] at h2
    cases h2
theorem ext {a b : M} (h1 : a.kind = b.kind) (h2 : a.src = b.src) (h3 : a.dst = b.dst) (h4 : a.term = b.term) (h5 : a.shard = b.shard) (h6 : a.number = b.number) (h7 : a.is = b.is) (h8 : a.reco = b.reco) (h9 : a.ent = b.ent) (h10 : a.ballot = b.ballot) (h11 : a.old = b.old) (h12 : a.conf = b.conf) : a = b := by
  cases a
  cases b
  simp only at h1 h2 h3 h4 h5 h6 h7 h8 h9 h10 h11 h12
  subst h1 h2 h3 h4 h5 h6 h7 h8 h9 h10 h11 h12
  rfl
theorem plain_ok {m : M} {r e c : Bool} (h : plain m r e c = true) : (r = false → m.reco = rec0) ∧ (e = false → m.ent = ent0) ∧ (c = false → m.conf = conf0) := by
  unfold plain at h
  simp only [Bool.and_eq_true, Bool.or_eq_true, Rec.same_iff, Ent.alike_iff, Term.alike_iff] at h
  obtain ⟨h1, h2, h3⟩ := h
  refine ⟨fun e => ?_, fun e => ?_, fun e => ?_⟩
  · rcases h1 with h | h
    · rw [e] at h; cases h
    · exact h
  · rcases h2 with h | h
    · rw [e] at h; cases h
    · exact h
  · rcases h3 with h | h
    · rw [e] at h; cases h
    · exact h
/-- What the kinds have. -/
inductive Is (m : M) : Prop
  | one (k : m.kind = 1) (b : m.ballot = 0) (o : m.old = 0) (i : m.is = false) (r : Rec.right m.reco = true) (e : m.ent = ent0) (c : m.conf = conf0) : Is m
  | two (k : m.kind = 2) (b : m.ballot = 0) (o : m.old = 0) (i : m.is = false) (r : m.reco = rec0) (e : m.ent = ent0) (c : m.conf = conf0) : Is m
  | three (k : m.kind = 3) (b : m.ballot = 0) (o : m.old = 0) (i : m.is = false) (s : m.shard = 0) (n : m.number = 0) (r : m.reco = rec0) (e : Ent.right m.ent = true) (c : m.conf = conf0) : Is m
  | four (k : m.kind = 4 ∨ m.kind = 6) (b : m.ballot = 0) (o : m.old = 0) (s : m.shard = 0) (r : m.reco = rec0) (e : m.ent = ent0) (c : m.conf = conf0) : Is m
  | five (k : m.kind = 5) (b : m.ballot = 0) (o : m.old = 0) (i : m.is = false) (s : m.shard = 0) (n : m.number = 0) (r : m.reco = rec0) (e : m.ent = ent0) (c : m.conf = conf0) : Is m
  | seven (k : m.kind = 7) (b : 1 ≤ m.ballot ∧ m.ballot ≤ 1099511627776) (o : m.old = 0) (i : m.is = false) (s : m.shard = 0) (n : m.number = 0) (r : m.reco = rec0) (e : m.ent = ent0) (c : m.conf = conf0) : Is m
  | eight0 (k : m.kind = 8) (b : 1 ≤ m.ballot ∧ m.ballot ≤ 1099511627776) (o : m.old = 0) (i : m.is = false) (s : m.shard = 0) (n : m.number = 0) (r : m.reco = rec0) (e : m.ent = ent0) (c : m.conf = conf0) : Is m
  | eight (k : m.kind = 8) (b : 1 ≤ m.ballot ∧ m.ballot ≤ 1099511627776) (o : 1 ≤ m.old ∧ m.old ≤ 1099511627776) (i : m.is = false) (s : m.shard = 0) (n : m.number = 0) (r : m.reco = rec0) (e : m.ent = ent0) (c : Term.right m.conf = true) (t : m.conf.term = m.term) : Is m
  | nine (k : m.kind = 9) (b : 1 ≤ m.ballot ∧ m.ballot ≤ 1099511627776) (o : m.old = 0) (i : m.is = false) (s : m.shard = 0) (n : m.number = 0) (r : m.reco = rec0) (e : m.ent = ent0) (c : Term.right m.conf = true) (t : m.conf.term = m.term) : Is m
  | ten (k : m.kind = 10) (b : 1 ≤ m.ballot ∧ m.ballot ≤ 1099511627776) (o : m.old = 0) (s : m.shard = 0) (n : m.number = 0) (r : m.reco = rec0) (e : m.ent = ent0) (c : m.conf = conf0) : Is m
theorem right_is {m : M} (h : right m = true) : headOk m = true ∧ Is m := by
  unfold right at h
  rw [Bool.and_eq_true] at h
  refine ⟨h.1, ?_⟩
  have h2 := h.2
  unfold kindOk at h2
  split at h2
  · rename_i hk
    simp only [quiet, Bool.and_eq_true, Bool.not_eq_true', decide_eq_true_eq] at h2
    obtain ⟨⟨b, o⟩, i, p, r⟩ := h2
    obtain ⟨_, p2, p3⟩ := plain_ok p
    exact .one hk b o i r (p2 rfl) (p3 rfl)
  split at h2
  · rename_i hk
    simp only [quiet, Bool.and_eq_true, Bool.not_eq_true', decide_eq_true_eq] at h2
    obtain ⟨⟨b, o⟩, i, p⟩ := h2
    obtain ⟨p1, p2, p3⟩ := plain_ok p
    exact .two hk b o i (p1 rfl) (p2 rfl) (p3 rfl)
  split at h2
  · rename_i hk
    simp only [quiet, Bool.and_eq_true, Bool.not_eq_true', decide_eq_true_eq] at h2
    obtain ⟨⟨b, o⟩, i, ⟨s, n⟩, p, r⟩ := h2
    obtain ⟨p1, _, p3⟩ := plain_ok p
    exact .three hk b o i s n (p1 rfl) r (p3 rfl)
  split at h2
  · rename_i hk
    simp only [quiet, Bool.and_eq_true, decide_eq_true_eq] at h2
    obtain ⟨⟨b, o⟩, s, p⟩ := h2
    obtain ⟨p1, p2, p3⟩ := plain_ok p
    exact .four hk b o s (p1 rfl) (p2 rfl) (p3 rfl)
  split at h2
  · rename_i hk
    simp only [quiet, Bool.and_eq_true, Bool.not_eq_true', decide_eq_true_eq] at h2
    obtain ⟨⟨b, o⟩, i, ⟨s, n⟩, p⟩ := h2
    obtain ⟨p1, p2, p3⟩ := plain_ok p
    exact .five hk b o i s n (p1 rfl) (p2 rfl) (p3 rfl)
  split at h2
  · rename_i hk
    simp only [votes, Bool.and_eq_true, Bool.not_eq_true', decide_eq_true_eq] at h2
    obtain ⟨⟨b, s, n⟩, o, i, p⟩ := h2
    obtain ⟨p1, p2, p3⟩ := plain_ok p
    exact .seven hk b o i s n (p1 rfl) (p2 rfl) (p3 rfl)
  split at h2
  · rename_i hk
    simp only [votes, Bool.and_eq_true, Bool.not_eq_true', decide_eq_true_eq] at h2
    obtain ⟨⟨b, s, n⟩, i, o, p⟩ := h2
    by_cases ho : m.old = 0
    · rw [if_pos ho] at p
      obtain ⟨p1, p2, p3⟩ := plain_ok p
      exact .eight0 hk b ho i s n (p1 rfl) (p2 rfl) (p3 rfl)
    · rw [if_neg ho, Bool.and_eq_true] at p
      obtain ⟨p1, p2, _⟩ := plain_ok p.1
      have q := p.2
      unfold withConf at q
      rw [Bool.and_eq_true, decide_eq_true_eq] at q
      exact .eight hk b (by omega) i s n (p1 rfl) (p2 rfl) q.1 q.2
  split at h2
  · rename_i hk
    simp only [votes, withConf, Bool.and_eq_true, Bool.not_eq_true', decide_eq_true_eq] at h2
    obtain ⟨⟨b, s, n⟩, o, i, p, q1, q2⟩ := h2
    obtain ⟨p1, p2, _⟩ := plain_ok p
    exact .nine hk b o i s n (p1 rfl) (p2 rfl) q1 q2
  split at h2
  · rename_i hk
    simp only [votes, Bool.and_eq_true, decide_eq_true_eq] at h2
    obtain ⟨⟨b, s, n⟩, o, p⟩ := h2
    obtain ⟨p1, p2, p3⟩ := plain_ok p
    exact .ten hk b o s n (p1 rfl) (p2 rfl) (p3 rfl)
  · cases h2
theorem reads1 {m : M} (h : headOk m = true) (k1 : m.kind = 1) (r : Rec.right m.reco = true) : k (text m) = 1 ∧ stShard (text m) = (⟨num m.number ++ textOf (Rec.enc m.reco), 0⟩, m.shard.toNat) ∧ stNumber (text m) = (⟨textOf (Rec.enc m.reco), 0⟩, m.number.toNat) ∧ stBallot (text m) = (⟨textOf (Rec.enc m.reco), 0⟩, 0) ∧ stOld (text m) = (⟨textOf (Rec.enc m.reco), 0⟩, 0) ∧ stIs (text m) = (⟨textOf (Rec.enc m.reco), 0⟩, false) ∧ stText (text m) = (⟨[], 0⟩, Rec.enc m.reco) := by
  obtain ⟨h1, h2, h3, h4, h5⟩ := head_ok h
  have hl := Rec.enc_le r
  obtain ⟨hk0, _, _, _, hT⟩ := read_head (by omega) h
  have hk : k (text m) = 1 := by omega
  have hp : parts m = num m.shard ++ (num m.number ++ textOf (Rec.enc m.reco)) := by
    unfold parts
    rw [if_pos (by omega)]
  rw [hp] at hT
  have r_shard : stShard (text m) = (⟨num m.number ++ textOf (Rec.enc m.reco), 0⟩, m.shard.toNat) := by unfold stShard optNum; rw [hT]; simp only [hk]; exact read_n (by omega) (by omega) _
  have r_number : stNumber (text m) = (⟨textOf (Rec.enc m.reco), 0⟩, m.number.toNat) := by unfold stNumber optNum; rw [r_shard]; simp only [hk]; exact read_n (by omega) (by omega) _
  have r_ballot : stBallot (text m) = (⟨textOf (Rec.enc m.reco), 0⟩, 0) := by unfold stBallot optNum; rw [r_number]; simp only [hk]; rfl
  have r_old : stOld (text m) = (⟨textOf (Rec.enc m.reco), 0⟩, 0) := by unfold stOld optNum; rw [r_ballot]; simp only [hk]; rfl
  have r_is : stIs (text m) = (⟨textOf (Rec.enc m.reco), 0⟩, false) := by unfold stIs optBool; rw [r_old]; simp only [hk]; rfl
  have r_text : stText (text m) = (⟨[], 0⟩, Rec.enc m.reco) := by unfold stText optText; rw [r_is]; simp only [hk]; exact read_t (by omega)
  exact ⟨hk, r_shard, r_number, r_ballot, r_old, r_is, r_text⟩
theorem reads2 {m : M} (h : headOk m = true) (k1 : m.kind = 2)  : k (text m) = 2 ∧ stShard (text m) = (⟨num m.number, 0⟩, m.shard.toNat) ∧ stNumber (text m) = (⟨[], 0⟩, m.number.toNat) ∧ stBallot (text m) = (⟨[], 0⟩, 0) ∧ stOld (text m) = (⟨[], 0⟩, 0) ∧ stIs (text m) = (⟨[], 0⟩, false) ∧ stText (text m) = (⟨[], 0⟩, []) := by
  obtain ⟨h1, h2, h3, h4, h5⟩ := head_ok h
  obtain ⟨hk0, _, _, _, hT⟩ := read_head (by omega) h
  have hk : k (text m) = 2 := by omega
  have hp : parts m = num m.shard ++ num m.number := by
    unfold parts
    rw [if_neg (by omega)]
    rw [if_pos (by omega)]
  rw [hp] at hT
  have r_shard : stShard (text m) = (⟨num m.number, 0⟩, m.shard.toNat) := by unfold stShard optNum; rw [hT]; simp only [hk]; exact read_n (by omega) (by omega) _
  have r_number : stNumber (text m) = (⟨[], 0⟩, m.number.toNat) := by unfold stNumber optNum; rw [r_shard]; simp only [hk]; exact read_last (by omega) (by omega)
  have r_ballot : stBallot (text m) = (⟨[], 0⟩, 0) := by unfold stBallot optNum; rw [r_number]; simp only [hk]; rfl
  have r_old : stOld (text m) = (⟨[], 0⟩, 0) := by unfold stOld optNum; rw [r_ballot]; simp only [hk]; rfl
  have r_is : stIs (text m) = (⟨[], 0⟩, false) := by unfold stIs optBool; rw [r_old]; simp only [hk]; rfl
  have r_text : stText (text m) = (⟨[], 0⟩, []) := by unfold stText optText; rw [r_is]; simp only [hk]; rfl
  exact ⟨hk, r_shard, r_number, r_ballot, r_old, r_is, r_text⟩
theorem reads3 {m : M} (h : headOk m = true) (k1 : m.kind = 3) (r : Ent.right m.ent = true) : k (text m) = 3 ∧ stShard (text m) = (⟨textOf (Ent.enc m.ent), 0⟩, 0) ∧ stNumber (text m) = (⟨textOf (Ent.enc m.ent), 0⟩, 0) ∧ stBallot (text m) = (⟨textOf (Ent.enc m.ent), 0⟩, 0) ∧ stOld (text m) = (⟨textOf (Ent.enc m.ent), 0⟩, 0) ∧ stIs (text m) = (⟨textOf (Ent.enc m.ent), 0⟩, false) ∧ stText (text m) = (⟨[], 0⟩, Ent.enc m.ent) := by
  obtain ⟨h1, h2, h3, h4, h5⟩ := head_ok h
  have hl := Ent.enc_le r
  obtain ⟨hk0, _, _, _, hT⟩ := read_head (by omega) h
  have hk : k (text m) = 3 := by omega
  have hp : parts m = textOf (Ent.enc m.ent) := by
    unfold parts
    rw [if_neg (by omega)]
    rw [if_neg (by omega)]
    rw [if_pos (by omega)]
  rw [hp] at hT
  have r_shard : stShard (text m) = (⟨textOf (Ent.enc m.ent), 0⟩, 0) := by unfold stShard optNum; rw [hT]; simp only [hk]; rfl
  have r_number : stNumber (text m) = (⟨textOf (Ent.enc m.ent), 0⟩, 0) := by unfold stNumber optNum; rw [r_shard]; simp only [hk]; rfl
  have r_ballot : stBallot (text m) = (⟨textOf (Ent.enc m.ent), 0⟩, 0) := by unfold stBallot optNum; rw [r_number]; simp only [hk]; rfl
  have r_old : stOld (text m) = (⟨textOf (Ent.enc m.ent), 0⟩, 0) := by unfold stOld optNum; rw [r_ballot]; simp only [hk]; rfl
  have r_is : stIs (text m) = (⟨textOf (Ent.enc m.ent), 0⟩, false) := by unfold stIs optBool; rw [r_old]; simp only [hk]; rfl
  have r_text : stText (text m) = (⟨[], 0⟩, Ent.enc m.ent) := by unfold stText optText; rw [r_is]; simp only [hk]; exact read_t (by omega)
  exact ⟨hk, r_shard, r_number, r_ballot, r_old, r_is, r_text⟩
theorem reads4 {m : M} (h : headOk m = true) (k1 : m.kind = 4)  : k (text m) = 4 ∧ stShard (text m) = (⟨num m.number ++ boolOf m.is, 0⟩, 0) ∧ stNumber (text m) = (⟨boolOf m.is, 0⟩, m.number.toNat) ∧ stBallot (text m) = (⟨boolOf m.is, 0⟩, 0) ∧ stOld (text m) = (⟨boolOf m.is, 0⟩, 0) ∧ stIs (text m) = (⟨[], 0⟩, m.is) ∧ stText (text m) = (⟨[], 0⟩, []) := by
  obtain ⟨h1, h2, h3, h4, h5⟩ := head_ok h
  obtain ⟨hk0, _, _, _, hT⟩ := read_head (by omega) h
  have hk : k (text m) = 4 := by omega
  have hp : parts m = num m.number ++ boolOf m.is := by
    unfold parts
    rw [if_neg (by omega)]
    rw [if_neg (by omega)]
    rw [if_neg (by omega)]
    rw [if_pos (by omega)]
  rw [hp] at hT
  have r_shard : stShard (text m) = (⟨num m.number ++ boolOf m.is, 0⟩, 0) := by unfold stShard optNum; rw [hT]; simp only [hk]; rfl
  have r_number : stNumber (text m) = (⟨boolOf m.is, 0⟩, m.number.toNat) := by unfold stNumber optNum; rw [r_shard]; simp only [hk]; exact read_n (by omega) (by omega) _
  have r_ballot : stBallot (text m) = (⟨boolOf m.is, 0⟩, 0) := by unfold stBallot optNum; rw [r_number]; simp only [hk]; rfl
  have r_old : stOld (text m) = (⟨boolOf m.is, 0⟩, 0) := by unfold stOld optNum; rw [r_ballot]; simp only [hk]; rfl
  have r_is : stIs (text m) = (⟨[], 0⟩, m.is) := by unfold stIs optBool; rw [r_old]; simp only [hk]; exact read_b _
  have r_text : stText (text m) = (⟨[], 0⟩, []) := by unfold stText optText; rw [r_is]; simp only [hk]; rfl
  exact ⟨hk, r_shard, r_number, r_ballot, r_old, r_is, r_text⟩
theorem reads5 {m : M} (h : headOk m = true) (k1 : m.kind = 5)  : k (text m) = 5 ∧ stShard (text m) = (⟨[], 0⟩, 0) ∧ stNumber (text m) = (⟨[], 0⟩, 0) ∧ stBallot (text m) = (⟨[], 0⟩, 0) ∧ stOld (text m) = (⟨[], 0⟩, 0) ∧ stIs (text m) = (⟨[], 0⟩, false) ∧ stText (text m) = (⟨[], 0⟩, []) := by
  obtain ⟨h1, h2, h3, h4, h5⟩ := head_ok h
  obtain ⟨hk0, _, _, _, hT⟩ := read_head (by omega) h
  have hk : k (text m) = 5 := by omega
  have hp : parts m = [] := by
    unfold parts
    rw [if_neg (by omega)]
    rw [if_neg (by omega)]
    rw [if_neg (by omega)]
    rw [if_neg (by omega)]
    rw [if_neg (by omega)]
    rw [if_neg (by omega)]
    rw [if_neg (by omega)]
    rw [if_neg (by omega)]
  rw [hp] at hT
  have r_shard : stShard (text m) = (⟨[], 0⟩, 0) := by unfold stShard optNum; rw [hT]; simp only [hk]; rfl
  have r_number : stNumber (text m) = (⟨[], 0⟩, 0) := by unfold stNumber optNum; rw [r_shard]; simp only [hk]; rfl
  have r_ballot : stBallot (text m) = (⟨[], 0⟩, 0) := by unfold stBallot optNum; rw [r_number]; simp only [hk]; rfl
  have r_old : stOld (text m) = (⟨[], 0⟩, 0) := by unfold stOld optNum; rw [r_ballot]; simp only [hk]; rfl
  have r_is : stIs (text m) = (⟨[], 0⟩, false) := by unfold stIs optBool; rw [r_old]; simp only [hk]; rfl
  have r_text : stText (text m) = (⟨[], 0⟩, []) := by unfold stText optText; rw [r_is]; simp only [hk]; rfl
  exact ⟨hk, r_shard, r_number, r_ballot, r_old, r_is, r_text⟩
theorem reads6 {m : M} (h : headOk m = true) (k1 : m.kind = 6)  : k (text m) = 6 ∧ stShard (text m) = (⟨num m.number ++ boolOf m.is, 0⟩, 0) ∧ stNumber (text m) = (⟨boolOf m.is, 0⟩, m.number.toNat) ∧ stBallot (text m) = (⟨boolOf m.is, 0⟩, 0) ∧ stOld (text m) = (⟨boolOf m.is, 0⟩, 0) ∧ stIs (text m) = (⟨[], 0⟩, m.is) ∧ stText (text m) = (⟨[], 0⟩, []) := by
  obtain ⟨h1, h2, h3, h4, h5⟩ := head_ok h
  obtain ⟨hk0, _, _, _, hT⟩ := read_head (by omega) h
  have hk : k (text m) = 6 := by omega
  have hp : parts m = num m.number ++ boolOf m.is := by
    unfold parts
    rw [if_neg (by omega)]
    rw [if_neg (by omega)]
    rw [if_neg (by omega)]
    rw [if_pos (by omega)]
  rw [hp] at hT
  have r_shard : stShard (text m) = (⟨num m.number ++ boolOf m.is, 0⟩, 0) := by unfold stShard optNum; rw [hT]; simp only [hk]; rfl
  have r_number : stNumber (text m) = (⟨boolOf m.is, 0⟩, m.number.toNat) := by unfold stNumber optNum; rw [r_shard]; simp only [hk]; exact read_n (by omega) (by omega) _
  have r_ballot : stBallot (text m) = (⟨boolOf m.is, 0⟩, 0) := by unfold stBallot optNum; rw [r_number]; simp only [hk]; rfl
  have r_old : stOld (text m) = (⟨boolOf m.is, 0⟩, 0) := by unfold stOld optNum; rw [r_ballot]; simp only [hk]; rfl
  have r_is : stIs (text m) = (⟨[], 0⟩, m.is) := by unfold stIs optBool; rw [r_old]; simp only [hk]; exact read_b _
  have r_text : stText (text m) = (⟨[], 0⟩, []) := by unfold stText optText; rw [r_is]; simp only [hk]; rfl
  exact ⟨hk, r_shard, r_number, r_ballot, r_old, r_is, r_text⟩
theorem reads7 {m : M} (h : headOk m = true) (k1 : m.kind = 7)  (b : 1 ≤ m.ballot ∧ m.ballot ≤ 1099511627776) : k (text m) = 7 ∧ stShard (text m) = (⟨num m.ballot, 0⟩, 0) ∧ stNumber (text m) = (⟨num m.ballot, 0⟩, 0) ∧ stBallot (text m) = (⟨[], 0⟩, m.ballot.toNat) ∧ stOld (text m) = (⟨[], 0⟩, 0) ∧ stIs (text m) = (⟨[], 0⟩, false) ∧ stText (text m) = (⟨[], 0⟩, []) := by
  obtain ⟨h1, h2, h3, h4, h5⟩ := head_ok h
  obtain ⟨hk0, _, _, _, hT⟩ := read_head (by omega) h
  have hk : k (text m) = 7 := by omega
  have hp : parts m = num m.ballot := by
    unfold parts
    rw [if_neg (by omega)]
    rw [if_neg (by omega)]
    rw [if_neg (by omega)]
    rw [if_neg (by omega)]
    rw [if_pos (by omega)]
  rw [hp] at hT
  have r_shard : stShard (text m) = (⟨num m.ballot, 0⟩, 0) := by unfold stShard optNum; rw [hT]; simp only [hk]; rfl
  have r_number : stNumber (text m) = (⟨num m.ballot, 0⟩, 0) := by unfold stNumber optNum; rw [r_shard]; simp only [hk]; rfl
  have r_ballot : stBallot (text m) = (⟨[], 0⟩, m.ballot.toNat) := by unfold stBallot optNum; rw [r_number]; simp only [hk]; exact read_last (by omega) (by omega)
  have r_old : stOld (text m) = (⟨[], 0⟩, 0) := by unfold stOld optNum; rw [r_ballot]; simp only [hk]; rfl
  have r_is : stIs (text m) = (⟨[], 0⟩, false) := by unfold stIs optBool; rw [r_old]; simp only [hk]; rfl
  have r_text : stText (text m) = (⟨[], 0⟩, []) := by unfold stText optText; rw [r_is]; simp only [hk]; rfl
  exact ⟨hk, r_shard, r_number, r_ballot, r_old, r_is, r_text⟩
theorem reads80 {m : M} (h : headOk m = true) (k1 : m.kind = 8) (o : m.old = 0) (b : 1 ≤ m.ballot ∧ m.ballot ≤ 1099511627776) : k (text m) = 8 ∧ stShard (text m) = (⟨num m.ballot ++ num m.old, 0⟩, 0) ∧ stNumber (text m) = (⟨num m.ballot ++ num m.old, 0⟩, 0) ∧ stBallot (text m) = (⟨num m.old, 0⟩, m.ballot.toNat) ∧ stOld (text m) = (⟨[], 0⟩, m.old.toNat) ∧ stIs (text m) = (⟨[], 0⟩, false) ∧ stText (text m) = (⟨[], 0⟩, []) := by
  obtain ⟨h1, h2, h3, h4, h5⟩ := head_ok h
  obtain ⟨hk0, _, _, _, hT⟩ := read_head (by omega) h
  have hk : k (text m) = 8 := by omega
  have hp : parts m = num m.ballot ++ num m.old := by
    unfold parts
    rw [if_neg (by omega)]
    rw [if_neg (by omega)]
    rw [if_neg (by omega)]
    rw [if_neg (by omega)]
    rw [if_neg (by omega)]
    rw [if_pos (by omega)]
    rw [if_pos o, o]
    rw [show num 0 = [0] from by unfold num; exact Pack.num_low (by decide)]
  rw [hp] at hT
  have r_shard : stShard (text m) = (⟨num m.ballot ++ num m.old, 0⟩, 0) := by unfold stShard optNum; rw [hT]; simp only [hk]; rfl
  have r_number : stNumber (text m) = (⟨num m.ballot ++ num m.old, 0⟩, 0) := by unfold stNumber optNum; rw [r_shard]; simp only [hk]; rfl
  have r_ballot : stBallot (text m) = (⟨num m.old, 0⟩, m.ballot.toNat) := by unfold stBallot optNum; rw [r_number]; simp only [hk]; exact read_n (by omega) (by omega) _
  have r_old : stOld (text m) = (⟨[], 0⟩, m.old.toNat) := by unfold stOld optNum; rw [r_ballot]; simp only [hk]; exact read_last (by omega) (by omega)
  have r_is : stIs (text m) = (⟨[], 0⟩, false) := by unfold stIs optBool; rw [r_old]; simp only [hk]; rfl
  have r_text : stText (text m) = (⟨[], 0⟩, []) := by
    have ho : (stOld (text m)).2 = 0 := by rw [r_old]; show m.old.toNat = 0; omega
    unfold stText optText
    rw [r_is]
    simp only [hk, ho]
    rfl
  exact ⟨hk, r_shard, r_number, r_ballot, r_old, r_is, r_text⟩
theorem reads8 {m : M} (h : headOk m = true) (k1 : m.kind = 8) (r : Term.right m.conf = true) (o : 1 ≤ m.old ∧ m.old ≤ 1099511627776) (b : 1 ≤ m.ballot ∧ m.ballot ≤ 1099511627776) : k (text m) = 8 ∧ stShard (text m) = (⟨num m.ballot ++ (num m.old ++ textOf (Term.enc m.conf)), 0⟩, 0) ∧ stNumber (text m) = (⟨num m.ballot ++ (num m.old ++ textOf (Term.enc m.conf)), 0⟩, 0) ∧ stBallot (text m) = (⟨num m.old ++ textOf (Term.enc m.conf), 0⟩, m.ballot.toNat) ∧ stOld (text m) = (⟨textOf (Term.enc m.conf), 0⟩, m.old.toNat) ∧ stIs (text m) = (⟨textOf (Term.enc m.conf), 0⟩, false) ∧ stText (text m) = (⟨[], 0⟩, Term.enc m.conf) := by
  obtain ⟨h1, h2, h3, h4, h5⟩ := head_ok h
  have hl := Term.enc_le r
  obtain ⟨hk0, _, _, _, hT⟩ := read_head (by omega) h
  have hk : k (text m) = 8 := by omega
  have hp : parts m = num m.ballot ++ (num m.old ++ textOf (Term.enc m.conf)) := by
    unfold parts
    rw [if_neg (by omega)]
    rw [if_neg (by omega)]
    rw [if_neg (by omega)]
    rw [if_neg (by omega)]
    rw [if_neg (by omega)]
    rw [if_pos (by omega)]
    rw [if_neg (by omega)]
  rw [hp] at hT
  have r_shard : stShard (text m) = (⟨num m.ballot ++ (num m.old ++ textOf (Term.enc m.conf)), 0⟩, 0) := by unfold stShard optNum; rw [hT]; simp only [hk]; rfl
  have r_number : stNumber (text m) = (⟨num m.ballot ++ (num m.old ++ textOf (Term.enc m.conf)), 0⟩, 0) := by unfold stNumber optNum; rw [r_shard]; simp only [hk]; rfl
  have r_ballot : stBallot (text m) = (⟨num m.old ++ textOf (Term.enc m.conf), 0⟩, m.ballot.toNat) := by unfold stBallot optNum; rw [r_number]; simp only [hk]; exact read_n (by omega) (by omega) _
  have r_old : stOld (text m) = (⟨textOf (Term.enc m.conf), 0⟩, m.old.toNat) := by unfold stOld optNum; rw [r_ballot]; simp only [hk]; exact read_n (by omega) (by omega) _
  have r_is : stIs (text m) = (⟨textOf (Term.enc m.conf), 0⟩, false) := by unfold stIs optBool; rw [r_old]; simp only [hk]; rfl
  have r_text : stText (text m) = (⟨[], 0⟩, Term.enc m.conf) := by
    have ho : (stOld (text m)).2 ≠ 0 := by rw [r_old]; show m.old.toNat ≠ 0; omega
    have hc : decide (k (text m) = 1 ∨ k (text m) = 3 ∨ k (text m) = 9 ∨ (k (text m) = 8 ∧ (stOld (text m)).2 ≠ 0)) = true := decide_eq_true (.inr (.inr (.inr ⟨hk, ho⟩)))
    unfold stText optText
    rw [r_is, if_pos hc]
    exact read_t (by omega)
  exact ⟨hk, r_shard, r_number, r_ballot, r_old, r_is, r_text⟩
theorem reads9 {m : M} (h : headOk m = true) (k1 : m.kind = 9) (r : Term.right m.conf = true) (b : 1 ≤ m.ballot ∧ m.ballot ≤ 1099511627776) : k (text m) = 9 ∧ stShard (text m) = (⟨num m.ballot ++ textOf (Term.enc m.conf), 0⟩, 0) ∧ stNumber (text m) = (⟨num m.ballot ++ textOf (Term.enc m.conf), 0⟩, 0) ∧ stBallot (text m) = (⟨textOf (Term.enc m.conf), 0⟩, m.ballot.toNat) ∧ stOld (text m) = (⟨textOf (Term.enc m.conf), 0⟩, 0) ∧ stIs (text m) = (⟨textOf (Term.enc m.conf), 0⟩, false) ∧ stText (text m) = (⟨[], 0⟩, Term.enc m.conf) := by
  obtain ⟨h1, h2, h3, h4, h5⟩ := head_ok h
  have hl := Term.enc_le r
  obtain ⟨hk0, _, _, _, hT⟩ := read_head (by omega) h
  have hk : k (text m) = 9 := by omega
  have hp : parts m = num m.ballot ++ textOf (Term.enc m.conf) := by
    unfold parts
    rw [if_neg (by omega)]
    rw [if_neg (by omega)]
    rw [if_neg (by omega)]
    rw [if_neg (by omega)]
    rw [if_neg (by omega)]
    rw [if_neg (by omega)]
    rw [if_pos (by omega)]
  rw [hp] at hT
  have r_shard : stShard (text m) = (⟨num m.ballot ++ textOf (Term.enc m.conf), 0⟩, 0) := by unfold stShard optNum; rw [hT]; simp only [hk]; rfl
  have r_number : stNumber (text m) = (⟨num m.ballot ++ textOf (Term.enc m.conf), 0⟩, 0) := by unfold stNumber optNum; rw [r_shard]; simp only [hk]; rfl
  have r_ballot : stBallot (text m) = (⟨textOf (Term.enc m.conf), 0⟩, m.ballot.toNat) := by unfold stBallot optNum; rw [r_number]; simp only [hk]; exact read_n (by omega) (by omega) _
  have r_old : stOld (text m) = (⟨textOf (Term.enc m.conf), 0⟩, 0) := by unfold stOld optNum; rw [r_ballot]; simp only [hk]; rfl
  have r_is : stIs (text m) = (⟨textOf (Term.enc m.conf), 0⟩, false) := by unfold stIs optBool; rw [r_old]; simp only [hk]; rfl
  have r_text : stText (text m) = (⟨[], 0⟩, Term.enc m.conf) := by unfold stText optText; rw [r_is]; simp only [hk]; exact read_t (by omega)
  exact ⟨hk, r_shard, r_number, r_ballot, r_old, r_is, r_text⟩
theorem reads10 {m : M} (h : headOk m = true) (k1 : m.kind = 10)  (b : 1 ≤ m.ballot ∧ m.ballot ≤ 1099511627776) : k (text m) = 10 ∧ stShard (text m) = (⟨num m.ballot ++ boolOf m.is, 0⟩, 0) ∧ stNumber (text m) = (⟨num m.ballot ++ boolOf m.is, 0⟩, 0) ∧ stBallot (text m) = (⟨boolOf m.is, 0⟩, m.ballot.toNat) ∧ stOld (text m) = (⟨boolOf m.is, 0⟩, 0) ∧ stIs (text m) = (⟨[], 0⟩, m.is) ∧ stText (text m) = (⟨[], 0⟩, []) := by
  obtain ⟨h1, h2, h3, h4, h5⟩ := head_ok h
  obtain ⟨hk0, _, _, _, hT⟩ := read_head (by omega) h
  have hk : k (text m) = 10 := by omega
  have hp : parts m = num m.ballot ++ boolOf m.is := by
    unfold parts
    rw [if_neg (by omega)]
    rw [if_neg (by omega)]
    rw [if_neg (by omega)]
    rw [if_neg (by omega)]
    rw [if_neg (by omega)]
    rw [if_neg (by omega)]
    rw [if_neg (by omega)]
    rw [if_pos (by omega)]
  rw [hp] at hT
  have r_shard : stShard (text m) = (⟨num m.ballot ++ boolOf m.is, 0⟩, 0) := by unfold stShard optNum; rw [hT]; simp only [hk]; rfl
  have r_number : stNumber (text m) = (⟨num m.ballot ++ boolOf m.is, 0⟩, 0) := by unfold stNumber optNum; rw [r_shard]; simp only [hk]; rfl
  have r_ballot : stBallot (text m) = (⟨boolOf m.is, 0⟩, m.ballot.toNat) := by unfold stBallot optNum; rw [r_number]; simp only [hk]; exact read_n (by omega) (by omega) _
  have r_old : stOld (text m) = (⟨boolOf m.is, 0⟩, 0) := by unfold stOld optNum; rw [r_ballot]; simp only [hk]; rfl
  have r_is : stIs (text m) = (⟨[], 0⟩, m.is) := by unfold stIs optBool; rw [r_old]; simp only [hk]; exact read_b _
  have r_text : stText (text m) = (⟨[], 0⟩, []) := by unfold stText optText; rw [r_is]; simp only [hk]; rfl
  exact ⟨hk, r_shard, r_number, r_ballot, r_old, r_is, r_text⟩
/-- What is written is read as it was, to its end. -/
theorem read_text {vd : List UInt8 → List Int} (hv : ∀ v, Vec.right v = true → vd (Ent.vecBytes v) = v) {m : M} (h : right m = true) : (stText (text m)).1 = ⟨[], 0⟩ ∧ read vd (text m) = m := by
  obtain ⟨hh, hi⟩ := right_is h
  obtain ⟨h1, h2, h3, h4, h5⟩ := head_ok hh
  obtain ⟨q1, q2, q3, q4, _⟩ := read_head (by have := kind_in h; omega) hh
  cases hi with
  | one k1 b o i r e c =>
    obtain ⟨z0, z1, z2, z3, z4, z5, z6⟩ := reads1 hh k1 r
    refine ⟨by rw [z6], ext q1 q2 q3 q4 ?_ ?_ ?_ ?_ ?_ ?_ ?_ ?_⟩
    · show ((stShard (text m)).2 : Int) = m.shard; rw [z1]; simp only []; omega
    · show ((stNumber (text m)).2 : Int) = m.number; rw [z2]; simp only []; omega
    · show (stIs (text m)).2 = m.is; rw [z5]; exact i.symm
    · show recOf (text m) = m.reco; unfold recOf; rw [if_pos z0, z6]; simp only []; rw [Rec.dec_enc r]; rfl
    · show entOf vd (text m) = m.ent; unfold entOf; rw [if_neg (by omega)]; exact e.symm
    · show ((stBallot (text m)).2 : Int) = m.ballot; rw [z3]; simp only []; omega
    · show ((stOld (text m)).2 : Int) = m.old; rw [z4]; simp only []; omega
    · show confOf (text m) = m.conf; unfold confOf; rw [if_neg (by omega)]; exact c.symm
  | two k1 b o i r e c =>
    obtain ⟨z0, z1, z2, z3, z4, z5, z6⟩ := reads2 hh k1
    refine ⟨by rw [z6], ext q1 q2 q3 q4 ?_ ?_ ?_ ?_ ?_ ?_ ?_ ?_⟩
    · show ((stShard (text m)).2 : Int) = m.shard; rw [z1]; simp only []; omega
    · show ((stNumber (text m)).2 : Int) = m.number; rw [z2]; simp only []; omega
    · show (stIs (text m)).2 = m.is; rw [z5]; exact i.symm
    · show recOf (text m) = m.reco; unfold recOf; rw [if_neg (by omega)]; exact r.symm
    · show entOf vd (text m) = m.ent; unfold entOf; rw [if_neg (by omega)]; exact e.symm
    · show ((stBallot (text m)).2 : Int) = m.ballot; rw [z3]; simp only []; omega
    · show ((stOld (text m)).2 : Int) = m.old; rw [z4]; simp only []; omega
    · show confOf (text m) = m.conf; unfold confOf; rw [if_neg (by omega)]; exact c.symm
  | three k1 b o i s n r e c =>
    obtain ⟨z0, z1, z2, z3, z4, z5, z6⟩ := reads3 hh k1 e
    refine ⟨by rw [z6], ext q1 q2 q3 q4 ?_ ?_ ?_ ?_ ?_ ?_ ?_ ?_⟩
    · show ((stShard (text m)).2 : Int) = m.shard; rw [z1]; simp only []; omega
    · show ((stNumber (text m)).2 : Int) = m.number; rw [z2]; simp only []; omega
    · show (stIs (text m)).2 = m.is; rw [z5]; exact i.symm
    · show recOf (text m) = m.reco; unfold recOf; rw [if_neg (by omega)]; exact r.symm
    · show entOf vd (text m) = m.ent; unfold entOf; rw [if_pos z0, z6]; simp only []; rw [Ent.dec_enc hv e]; rfl
    · show ((stBallot (text m)).2 : Int) = m.ballot; rw [z3]; simp only []; omega
    · show ((stOld (text m)).2 : Int) = m.old; rw [z4]; simp only []; omega
    · show confOf (text m) = m.conf; unfold confOf; rw [if_neg (by omega)]; exact c.symm
  | four k1 b o s r e c =>
    rcases k1 with k1 | k1
    · obtain ⟨z0, z1, z2, z3, z4, z5, z6⟩ := reads4 hh k1
      refine ⟨by rw [z6], ext q1 q2 q3 q4 ?_ ?_ ?_ ?_ ?_ ?_ ?_ ?_⟩
      · show ((stShard (text m)).2 : Int) = m.shard; rw [z1]; simp only []; omega
      · show ((stNumber (text m)).2 : Int) = m.number; rw [z2]; simp only []; omega
      · show (stIs (text m)).2 = m.is; rw [z5]
      · show recOf (text m) = m.reco; unfold recOf; rw [if_neg (by omega)]; exact r.symm
      · show entOf vd (text m) = m.ent; unfold entOf; rw [if_neg (by omega)]; exact e.symm
      · show ((stBallot (text m)).2 : Int) = m.ballot; rw [z3]; simp only []; omega
      · show ((stOld (text m)).2 : Int) = m.old; rw [z4]; simp only []; omega
      · show confOf (text m) = m.conf; unfold confOf; rw [if_neg (by omega)]; exact c.symm
    · obtain ⟨z0, z1, z2, z3, z4, z5, z6⟩ := reads6 hh k1
      refine ⟨by rw [z6], ext q1 q2 q3 q4 ?_ ?_ ?_ ?_ ?_ ?_ ?_ ?_⟩
      · show ((stShard (text m)).2 : Int) = m.shard; rw [z1]; simp only []; omega
      · show ((stNumber (text m)).2 : Int) = m.number; rw [z2]; simp only []; omega
      · show (stIs (text m)).2 = m.is; rw [z5]
      · show recOf (text m) = m.reco; unfold recOf; rw [if_neg (by omega)]; exact r.symm
      · show entOf vd (text m) = m.ent; unfold entOf; rw [if_neg (by omega)]; exact e.symm
      · show ((stBallot (text m)).2 : Int) = m.ballot; rw [z3]; simp only []; omega
      · show ((stOld (text m)).2 : Int) = m.old; rw [z4]; simp only []; omega
      · show confOf (text m) = m.conf; unfold confOf; rw [if_neg (by omega)]; exact c.symm
  | five k1 b o i s n r e c =>
    obtain ⟨z0, z1, z2, z3, z4, z5, z6⟩ := reads5 hh k1
    refine ⟨by rw [z6], ext q1 q2 q3 q4 ?_ ?_ ?_ ?_ ?_ ?_ ?_ ?_⟩
    · show ((stShard (text m)).2 : Int) = m.shard; rw [z1]; simp only []; omega
    · show ((stNumber (text m)).2 : Int) = m.number; rw [z2]; simp only []; omega
    · show (stIs (text m)).2 = m.is; rw [z5]; exact i.symm
    · show recOf (text m) = m.reco; unfold recOf; rw [if_neg (by omega)]; exact r.symm
    · show entOf vd (text m) = m.ent; unfold entOf; rw [if_neg (by omega)]; exact e.symm
    · show ((stBallot (text m)).2 : Int) = m.ballot; rw [z3]; simp only []; omega
    · show ((stOld (text m)).2 : Int) = m.old; rw [z4]; simp only []; omega
    · show confOf (text m) = m.conf; unfold confOf; rw [if_neg (by omega)]; exact c.symm
  | seven k1 b o i s n r e c =>
    obtain ⟨z0, z1, z2, z3, z4, z5, z6⟩ := reads7 hh k1 b
    refine ⟨by rw [z6], ext q1 q2 q3 q4 ?_ ?_ ?_ ?_ ?_ ?_ ?_ ?_⟩
    · show ((stShard (text m)).2 : Int) = m.shard; rw [z1]; simp only []; omega
    · show ((stNumber (text m)).2 : Int) = m.number; rw [z2]; simp only []; omega
    · show (stIs (text m)).2 = m.is; rw [z5]; exact i.symm
    · show recOf (text m) = m.reco; unfold recOf; rw [if_neg (by omega)]; exact r.symm
    · show entOf vd (text m) = m.ent; unfold entOf; rw [if_neg (by omega)]; exact e.symm
    · show ((stBallot (text m)).2 : Int) = m.ballot; rw [z3]; simp only []; omega
    · show ((stOld (text m)).2 : Int) = m.old; rw [z4]; simp only []; omega
    · show confOf (text m) = m.conf; unfold confOf; rw [if_neg (by omega)]; exact c.symm
  | eight0 k1 b o i s n r e c =>
    obtain ⟨z0, z1, z2, z3, z4, z5, z6⟩ := reads80 hh k1 o b
    refine ⟨by rw [z6], ext q1 q2 q3 q4 ?_ ?_ ?_ ?_ ?_ ?_ ?_ ?_⟩
    · show ((stShard (text m)).2 : Int) = m.shard; rw [z1]; simp only []; omega
    · show ((stNumber (text m)).2 : Int) = m.number; rw [z2]; simp only []; omega
    · show (stIs (text m)).2 = m.is; rw [z5]; exact i.symm
    · show recOf (text m) = m.reco; unfold recOf; rw [if_neg (by omega)]; exact r.symm
    · show entOf vd (text m) = m.ent; unfold entOf; rw [if_neg (by omega)]; exact e.symm
    · show ((stBallot (text m)).2 : Int) = m.ballot; rw [z3]; simp only []; omega
    · show ((stOld (text m)).2 : Int) = m.old; rw [z4]; simp only []; omega
    · show confOf (text m) = m.conf; unfold confOf; rw [if_neg (by rw [z4]; show ¬ (k (text m) = 9 ∨ (k (text m) = 8 ∧ m.old.toNat ≠ 0)); omega)]; exact c.symm
  | eight k1 b o i s n r e c t =>
    obtain ⟨z0, z1, z2, z3, z4, z5, z6⟩ := reads8 hh k1 c o b
    refine ⟨by rw [z6], ext q1 q2 q3 q4 ?_ ?_ ?_ ?_ ?_ ?_ ?_ ?_⟩
    · show ((stShard (text m)).2 : Int) = m.shard; rw [z1]; simp only []; omega
    · show ((stNumber (text m)).2 : Int) = m.number; rw [z2]; simp only []; omega
    · show (stIs (text m)).2 = m.is; rw [z5]; exact i.symm
    · show recOf (text m) = m.reco; unfold recOf; rw [if_neg (by omega)]; exact r.symm
    · show entOf vd (text m) = m.ent; unfold entOf; rw [if_neg (by omega)]; exact e.symm
    · show ((stBallot (text m)).2 : Int) = m.ballot; rw [z3]; simp only []; omega
    · show ((stOld (text m)).2 : Int) = m.old; rw [z4]; simp only []; omega
    · show confOf (text m) = m.conf; unfold confOf; rw [if_pos (.inr ⟨z0, by rw [z4]; show m.old.toNat ≠ 0; omega⟩), z6]; simp only []; rw [Term.dec_enc c]; rfl
  | nine k1 b o i s n r e c t =>
    obtain ⟨z0, z1, z2, z3, z4, z5, z6⟩ := reads9 hh k1 c b
    refine ⟨by rw [z6], ext q1 q2 q3 q4 ?_ ?_ ?_ ?_ ?_ ?_ ?_ ?_⟩
    · show ((stShard (text m)).2 : Int) = m.shard; rw [z1]; simp only []; omega
    · show ((stNumber (text m)).2 : Int) = m.number; rw [z2]; simp only []; omega
    · show (stIs (text m)).2 = m.is; rw [z5]; exact i.symm
    · show recOf (text m) = m.reco; unfold recOf; rw [if_neg (by omega)]; exact r.symm
    · show entOf vd (text m) = m.ent; unfold entOf; rw [if_neg (by omega)]; exact e.symm
    · show ((stBallot (text m)).2 : Int) = m.ballot; rw [z3]; simp only []; omega
    · show ((stOld (text m)).2 : Int) = m.old; rw [z4]; simp only []; omega
    · show confOf (text m) = m.conf; unfold confOf; rw [if_pos (.inl z0), z6]; simp only []; rw [Term.dec_enc c]; rfl
  | ten k1 b o s n r e c =>
    obtain ⟨z0, z1, z2, z3, z4, z5, z6⟩ := reads10 hh k1 b
    refine ⟨by rw [z6], ext q1 q2 q3 q4 ?_ ?_ ?_ ?_ ?_ ?_ ?_ ?_⟩
    · show ((stShard (text m)).2 : Int) = m.shard; rw [z1]; simp only []; omega
    · show ((stNumber (text m)).2 : Int) = m.number; rw [z2]; simp only []; omega
    · show (stIs (text m)).2 = m.is; rw [z5]
    · show recOf (text m) = m.reco; unfold recOf; rw [if_neg (by omega)]; exact r.symm
    · show entOf vd (text m) = m.ent; unfold entOf; rw [if_neg (by omega)]; exact e.symm
    · show ((stBallot (text m)).2 : Int) = m.ballot; rw [z3]; simp only []; omega
    · show ((stOld (text m)).2 : Int) = m.old; rw [z4]; simp only []; omega
    · show confOf (text m) = m.conf; unfold confOf; rw [if_neg (by omega)]; exact c.symm
/-- What is read must be what is written. -/
def dec (vd : List UInt8 → List Int) (b : List UInt8) : Option M := match Crc.cutOf b with
  | none => none
  | some l => if ((stText l).1.done == 0) && (right (read vd l) && (enc (read vd l) == b)) then some (read vd l) else none
theorem dec_enc {vd : List UInt8 → List Int} (hv : ∀ v, Vec.right v = true → vd (Ent.vecBytes v) = v) {m : M} (h : right m = true) : dec vd (enc m) = some m := by
  unfold dec
  rw [show Crc.cutOf (enc m) = some (text m) from Crc.cut_put _]
  obtain ⟨h1, h2⟩ := read_text hv h
  simp only [h1, h2, h, beq_self_eq_true, Bool.and_self, Bool.and_true]
  rfl
theorem enc_dec {vd : List UInt8 → List Int} {b : List UInt8} {m : M} (h : dec vd b = some m) : right m = true ∧ enc m = b := by
  unfold dec at h
  split at h
  · cases h
  · split at h
    · rename_i hok
      injection h with h
      rw [Bool.and_eq_true, Bool.and_eq_true, beq_iff_eq, beq_iff_eq] at hok
      subst h
      exact hok.2
    · cases h
/-- Bytes are a message just if they are its bytes. -/
theorem dec_iff {vd : List UInt8 → List Int} (hv : ∀ v, Vec.right v = true → vd (Ent.vecBytes v) = v) {b : List UInt8} {m : M} : dec vd b = some m ↔ right m = true ∧ enc m = b :=
  ⟨enc_dec, fun h => by rw [← h.2]; exact dec_enc hv h.1⟩
theorem num_le {n : Int} (h : n ≤ 1099511627776) : (num n).length ≤ 9 := Pack.num_nine (by omega)
theorem textOf_le {l : List UInt8} (h : l.length ≤ 65536) : (textOf l).length ≤ 9 + l.length := by
  have := Pack.num_nine (n := l.length) (by omega)
  unfold textOf
  rw [List.length_append]
  omega
theorem boolOf_le (b : Bool) : (boolOf b).length = 1 := by cases b <;> rfl
theorem enc_le {m : M} (h : right m = true) : (enc m).length ≤ 1203 := by
  obtain ⟨hh, hi⟩ := right_is h
  obtain ⟨h1, h2, h3, h4, h5⟩ := head_ok hh
  have hk := kind_in h
  have n1 := num_le (n := m.kind) (by omega)
  have n2 := num_le (n := m.src) (by omega)
  have n3 := num_le (n := m.dst) (by omega)
  have n4 := num_le (n := m.term) (by omega)
  have n5 := num_le (n := m.shard) (by omega)
  have n6 := num_le (n := m.number) (by omega)
  have n7 := boolOf_le m.is
  have hp : (parts m).length ≤ 1163 := by
    unfold parts
    cases hi with
    | one k1 b o i r e c =>
      have l1 := Rec.enc_le r
      have l2 := textOf_le (l := Rec.enc m.reco) (by omega)
      rw [if_pos k1]; simp only [List.length_append]; omega
    | two k1 => rw [if_neg (by omega), if_pos k1, List.length_append]; omega
    | three k1 b o i s n r e c =>
      have l1 := Ent.enc_le e
      have l2 := textOf_le (l := Ent.enc m.ent) (by omega)
      rw [if_neg (by omega), if_neg (by omega), if_pos k1]; omega
    | four k1 => rw [if_neg (by omega), if_neg (by omega), if_neg (by omega), if_pos k1, List.length_append]; omega
    | five k1 => iterate 8 rw [if_neg (by omega)]
                 simp
    | seven k1 b =>
      have l1 := num_le (n := m.ballot) (by omega)
      iterate 4 rw [if_neg (by omega)]
      rw [if_pos k1]; omega
    | eight0 k1 b o =>
      have l1 := num_le (n := m.ballot) (by omega)
      iterate 5 rw [if_neg (by omega)]
      rw [if_pos k1, if_pos o, List.length_append]; simp only [List.length_cons, List.length_nil]; omega
    | eight k1 b o i s n r e c t =>
      have l0 := num_le (n := m.ballot) (by omega)
      have l3 := num_le (n := m.old) (by omega)
      have l1 := Term.enc_le c
      have l2 := textOf_le (l := Term.enc m.conf) (by omega)
      iterate 5 rw [if_neg (by omega)]
      rw [if_pos k1, if_neg (by omega)]; simp only [List.length_append]; omega
    | nine k1 b o i s n r e c t =>
      have l0 := num_le (n := m.ballot) (by omega)
      have l1 := Term.enc_le c
      have l2 := textOf_le (l := Term.enc m.conf) (by omega)
      iterate 6 rw [if_neg (by omega)]
      rw [if_pos k1]; simp only [List.length_append]; omega
    | ten k1 b =>
      have l1 := num_le (n := m.ballot) (by omega)
      iterate 7 rw [if_neg (by omega)]
      rw [if_pos k1]; simp only [List.length_append]; omega
  unfold enc text
  simp only [List.length_append, Crc.low_length]
  omega
end Go.Proofs.YtaijgpdlgcgfaaaGreat.Msg

/- Layer 6, mathematics: bytes as configurations, read part by part, each up to some bound: whatever the bounds are (great enough), the same are read. -/
namespace Go.Proofs.YtaijgpdlgcgfaaaGreat.Term

/-- A row of at most so many numbers, each of at most so much. -/
def gRow (m nd : Int) (s : Pack.St) : Pack.St × List Int := Rec.readsM nd (s.num m).1 (s.num m).2
def gRows (m nd : Int) (s : Pack.St) : Nat → Pack.St × List (List Int)
  | 0 => (s, [])
  | k + 1 => ((gRow m nd (gRows m nd s k).1).1, (gRows m nd s k).2 ++ [(gRow m nd (gRows m nd s k).1).2])
theorem gRows_len (m nd : Int) (s : Pack.St) (k : Nat) : (gRows m nd s k).2.length = k := by
  induction k with
  | zero => rfl
  | succ k ih => simp [gRows, ih]
theorem gRow_len (m nd : Int) (s : Pack.St) : (gRow m nd s).2.length = (s.num m).2 := Rec.readsM_len _ _ _
def gA (l : List UInt8) : Pack.St × Nat := Pack.St.num ⟨l, 0⟩ 64
def gB (m1 nd : Int) (l : List UInt8) : Pack.St × List Int := gRow m1 nd (gA l).1
def gC (m1 nd : Int) (l : List UInt8) : Pack.St × Nat := (gB m1 nd l).1.num 8
def gD (m1 m2 nd : Int) (l : List UInt8) : Pack.St × List (List Int) := gRows m2 nd (gC m1 nd l).1 (gC m1 nd l).2
def gread (m1 m2 nd : Int) (l : List UInt8) : C := ⟨(gA l).2, (gB m1 nd l).2, (gD m1 m2 nd l).2⟩
def gok (m1 m2 nd : Int) (l : List UInt8) : Bool := ((gD m1 m2 nd l).1.done == 0) && right (gread m1 m2 nd l)

theorem gRow_ref (s : Pack.St) : gRow 16 16 s = readRow s := rfl
theorem gRows_ref (s : Pack.St) (k : Nat) : gRows 16 16 s k = readRows s k := by
  induction k with
  | zero => rfl
  | succ k ih => simp only [gRows, readRows, ih, gRow_ref]
theorem gok_ref (l : List UInt8) : gok 16 16 16 l = readOk l := by
  have h : gD 16 16 16 l = stD l := gRows_ref _ _
  unfold gok readOk gread read
  rw [h]
  rfl
theorem gread_ref (l : List UInt8) : gread 16 16 16 l = read l := by
  have h : gD 16 16 16 l = stD l := gRows_ref _ _
  unfold gread read
  rw [h]
  rfl

/-! What is read is written as the same bytes. -/
theorem gRow_err {m nd : Int} {s : Pack.St} (h : (gRow m nd s).1.err = 0) : s.err = 0 := Rec.num_err (Rec.reads_err _ h)
theorem gRow_left {m nd : Int} {s : Pack.St} (h : (gRow m nd s).1.err = 0) : s.left = row (gRow m nd s).2 ++ (gRow m nd s).1.left := by
  have h1 := Rec.reads_err _ h
  have l1 := Rec.num_left h1
  have l2 := Rec.reads_left _ h
  unfold row
  rw [gRow_len, List.append_assoc]
  show s.left = Pack.num (s.num m).2 ++ (Rec.numsOf (Rec.readsM nd (s.num m).1 (s.num m).2).2 ++ (Rec.readsM nd (s.num m).1 (s.num m).2).1.left)
  rw [← l2]
  exact l1
theorem gRows_err {m nd : Int} {s : Pack.St} : ∀ k, (gRows m nd s k).1.err = 0 → s.err = 0 := by
  intro k
  induction k with
  | zero => intro h; exact h
  | succ k ih => intro h; exact ih (gRow_err h)
theorem gRows_left {m nd : Int} {s : Pack.St} : ∀ k, (gRows m nd s k).1.err = 0 → s.left = rowsOf (gRows m nd s k).2 ++ (gRows m nd s k).1.left := by
  intro k
  induction k with
  | zero => intro _; simp [gRows, rowsOf]
  | succ k ih =>
    intro h
    have h1 : (gRow m nd (gRows m nd s k).1).1.err = 0 := h
    have l1 := gRow_left h1
    have l2 := ih (gRow_err h1)
    show _ = rowsOf ((gRows m nd s k).2 ++ [(gRow m nd (gRows m nd s k).1).2]) ++ (gRow m nd (gRows m nd s k).1).1.left
    rw [rowsOf_snoc, List.append_assoc, ← l1]
    exact l2
theorem text_gread {m1 m2 nd : Int} {l : List UInt8} (h : gok m1 m2 nd l = true) : text (gread m1 m2 nd l) = l := by
  unfold gok at h
  rw [Bool.and_eq_true, beq_iff_eq] at h
  obtain ⟨hd, hr⟩ := h
  obtain ⟨d1, d2⟩ := Rec.done_zero hd
  have eD : (gRows m2 nd (gC m1 nd l).1 (gC m1 nd l).2).1.err = 0 := d2
  have eC : ((gB m1 nd l).1.num 8).1.err = 0 := gRows_err _ eD
  have eB : (gRow m1 nd (gA l).1).1.err = 0 := Rec.num_err eC
  have eA : (Pack.St.num ⟨l, 0⟩ 64).1.err = 0 := gRow_err eB
  have lD0 := gRows_left _ eD
  have lD : (gC m1 nd l).1.left = rowsOf (gD m1 m2 nd l).2 := by
    rw [lD0]
    show rowsOf (gD m1 m2 nd l).2 ++ (gD m1 m2 nd l).1.left = _
    rw [d1, List.append_nil]
  have lC : (gB m1 nd l).1.left = Pack.num (gC m1 nd l).2 ++ (gC m1 nd l).1.left := Rec.num_left eC
  have lB : (gA l).1.left = row (gB m1 nd l).2 ++ (gB m1 nd l).1.left := gRow_left eB
  have lA : l = Pack.num (gA l).2 ++ (gA l).1.left := Rec.num_left (s := ⟨l, 0⟩) (most := 64) eA
  have hlen : (gD m1 m2 nd l).2.length = (gC m1 nd l).2 := gRows_len _ _ _ _
  unfold text gread
  simp only
  rw [hlen, ← lD, ← lC, ← lB, show (((gA l).2 : Nat) : Int).toNat = (gA l).2 from rfl, ← lA]
theorem cut_back6 {b l : List UInt8} (h : Crc.cutOf b = some l) : l ++ Crc.low (Crc.sum l) = b := by
  unfold Crc.cutOf at h
  split at h
  · cases h
  · split at h
    · rename_i hc
      injection h with h
      rw [← h]
      exact hc
    · cases h
/-- Bytes are a configuration just if they are its bytes. -/
theorem dec_iff {b : List UInt8} {c : C} : dec b = some c ↔ right c = true ∧ enc c = b := by
  constructor
  · intro h
    unfold dec at h
    split at h
    · cases h
    · rename_i l hc
      split at h
      · rename_i hok
        injection h with h
        subst h
        rw [← gok_ref] at hok
        have ht := text_gread hok
        rw [gread_ref] at ht
        have hr : right (read l) = true := by
          unfold gok at hok
          rw [Bool.and_eq_true, gread_ref] at hok
          exact hok.2
        refine ⟨hr, ?_⟩
        unfold enc
        rw [ht]
        exact cut_back6 hc
      · cases h
  · rintro ⟨h1, rfl⟩
    exact dec_enc h1
/-- What Decode tells. -/
def noC : C := ⟨0, [], []⟩
def confOf : Option C → C
  | none => noC
  | some c => c
end Go.Proofs.YtaijgpdlgcgfaaaGreat.Term

/- Layer 5, mathematics: the last cut by a walk from behind; entries of which none is a cut; no program. -/
namespace Go.Proofs.YtaijgpdlgcgfaaaGreat.Ent

end Go.Proofs.YtaijgpdlgcgfaaaGreat.Ent
