import Derived.Test.YtnoeconcpgdjlaaGreatBsEnt
import Derived.Test.YtnoeconcpgdjlaaGreatBsMath
set_option linter.unusedSimpArgs false
set_option linter.unusedVariables false
namespace Go.Proofs.YtnoeconcpgdjlaaGreat.Quo
open Ent (E)
def has (hs : List Msg.M) (x : Int) : Int := hs.foldl (fun n m => if m.src = x /\ n < m.number then m.number else n) 0
theorem zdv {p : Pr} (h : p.Ok) (n : Int) : (Term.majority p.c : Int) <= (Vec.many (p.c.seqs.map p.f) n : Int) ↔ n <= p.committed := by
 have hq := zdj h
 constructor
 . intro hm
   rcases Int.lt_or_le p.committed n with hl | hl
   . have := hq.2.2 n hl; omega
   . exact hl
 . intro hl
   have h1 := hq.2.1
   have h2 := Vec.many_mono (p.c.seqs.map p.f) hl
   omega
def best (p : Pr) : Nat -> Int
 | 0 => 0
 | k + 1 => if (Term.majority p.c : Int) <= (Vec.many (p.c.seqs.map p.f) ((k : Int) + 1) : Int) then (k : Int) + 1 else best p k
theorem zqz {p : Pr} (h : p.Ok) : ∀ k : Nat, best p k = min (k : Int) p.committed := by
 intro k
 induction k with
 | zero =>
  have := (committed_le h).1
  show (0 : Int) = min ((0 : Nat) : Int) p.committed
  omega
 | succ k ih =>
  unfold best
  have hc := zdv h ((k : Int) + 1)
  split
  . next hm => have := hc.1 hm; omega
  . next hm =>
    have : ¬ ((k : Int) + 1 <= p.committed) := fun e => hm (hc.2 e)
    rw [ih]
    omega
theorem zrs {p : Pr} (h : p.Ok) : best p p.l.length = p.committed := by
 rw [zqz h]
 have := (committed_le h).2
 omega
theorem zqu (f : Int -> Int) (l : List Int) (n : Int) : Vec.many (l.map f) n = l.countP (fun x => decide (n <= f x)) := by
 unfold Vec.many
 rw [List.countP_map]
 rfl
def zcq (ps : List (Int × List E)) : List E := ps.foldl (fun o p => if o.length < p.2.length then p.2 else o) []
theorem longest_snoc (ps : List (Int × List E)) (p : Int × List E) : zcq (ps ++ [p]) = if (zcq ps).length < p.2.length then p.2 else zcq ps := by
 unfold zcq
 rw [List.foldl_append]
 rfl
instance : DecidableEq E := fun a b => decidable_of_iff _ (Ent.alike_iff a b)
def agrees (a b : List E) : Bool := decide (a.take (min a.length b.length) = b.take (min a.length b.length))
theorem zmm (a b : List E) : agrees a b = true ↔ a <+: b \/ b <+: a := by
 unfold agrees
 rw [decide_eq_true_eq]
 constructor
 . intro h
   rcases Nat.le_total a.length b.length with hl | hl
   . rw [Nat.min_eq_left hl, List.take_length] at h
     exact .inl (h ▸ List.take_prefix _ _)
   . rw [Nat.min_eq_right hl, List.take_length] at h
     exact .inr (h ▸ List.take_prefix _ _)
 . rintro (h | h)
   . have hl := h.length_le
     rw [Nat.min_eq_left hl, List.take_length]
     exact List.prefix_iff_eq_take.1 h
   . have hl := h.length_le
     rw [Nat.min_eq_right hl, List.take_length]
     exact (List.prefix_iff_eq_take.1 h).symm
structure Se where
 c : Term.C
 ps : List (Int × List E)
def Se.long (s : Se) : List E := zcq s.ps
def Se.hears (s : Se) (n : Int) (x : List E) : Bool := decide (n ∈ s.c.seqs /\ Ent.chain x = x.length /\ n ∉ s.ps.map (·.1)) && agrees x s.long
def Se.hear (s : Se) (n : Int) (x : List E) : Se := if s.hears n x = true then ⟨s.c, s.ps ++ [(n, x)]⟩ else s
def Se.done (s : Se) : Bool := decide (Term.majority s.c <= s.ps.length)
structure Se.Ok (s : Se) : Prop where
 right : Term.right s.c = true
 pre : ∀ p ∈ s.ps, p.2 <+: s.long
 chain : Ent.isChain s.long
 once : (s.ps.map (·.1)).Nodup
 isOne : s.ps ≠ [] -> ∃ p ∈ s.ps, p.2 = s.long
theorem Se.new_ok {c : Term.C} (h : Term.right c = true) : (Se.mk c []).Ok := ⟨h, (fun p hp => absurd hp (by simp)), rfl, List.nodup_nil, (fun h => absurd rfl h)⟩
theorem Se.Ok.hear {s : Se} (h : s.Ok) (n : Int) (x : List E) : (s.hear n x).Ok := by
 unfold Se.hear
 split
 . next hh =>
   unfold Se.hears at hh
   simp only [Bool.and_eq_true, decide_eq_true_eq] at hh
   obtain ⟨⟨h1, h2, h3⟩, h4⟩ := hh
   have ha := (zmm _ _).1 h4
   have hl : (Se.mk s.c (s.ps ++ [(n, x)])).long = if s.long.length < x.length then x else s.long := longest_snoc _ _
   by_cases hlt : s.long.length < x.length
   . rw [if_pos hlt] at hl
     have hp : s.long <+: x := by
      rcases ha with ha | ha
      . have := ha.length_le; omega
      . exact ha
     refine ⟨h.right, fun p hp' => ?_, ?_, ?_, fun _ => ?_⟩
     . rw [hl]
       rcases List.mem_append.1 hp' with hp' | hp'
       . exact (h.pre p hp').trans hp
       . rw [List.mem_singleton.1 hp']; exact List.prefix_rfl
     . rw [hl]; exact h2
     . show ((s.ps ++ [(n, x)]).map (·.1)).Nodup
       rw [List.map_append]
       exact List.nodup_append.2 ⟨h.once, by simp, fun a ha b hb e => h3 (by simp at hb; subst hb; subst e; exact ha)⟩
     . exact ⟨(n, x), List.mem_append_right _ (List.mem_singleton.2 rfl), hl.symm⟩
   . rw [if_neg hlt] at hl
     have hp : x <+: s.long := by
      rcases ha with ha | ha
      . exact ha
      . have := List.IsPrefix.eq_of_length ha (by have := ha.length_le; omega)
        rw [this]; exact List.prefix_rfl
     refine ⟨h.right, fun p hp' => ?_, ?_, ?_, fun _ => ?_⟩
     . rw [hl]
       rcases List.mem_append.1 hp' with hp' | hp'
       . exact h.pre p hp'
       . rw [List.mem_singleton.1 hp']; exact hp
     . rw [hl]; exact h.chain
     . show ((s.ps ++ [(n, x)]).map (·.1)).Nodup
       rw [List.map_append]
       exact List.nodup_append.2 ⟨h.once, by simp, fun a ha b hb e => h3 (by simp at hb; subst hb; subst e; exact ha)⟩
     . by_cases hn : s.ps = []
       . refine ⟨(n, x), List.mem_append_right _ (List.mem_singleton.2 rfl), ?_⟩
         rw [hl]
         have h0 : s.long = [] := by unfold Se.long; rw [hn]; rfl
         rw [h0] at hlt ⊢
         show x = []
         simpa using hlt
       . obtain ⟨p, hp1, hp2⟩ := h.isOne hn
         exact ⟨p, List.mem_append_left _ hp1, by rw [hl]; exact hp2⟩
 . exact h
end Go.Proofs.YtnoeconcpgdjlaaGreat.Quo
namespace Go.Proofs.YtnoeconcpgdjlaaGreat.Quo
open Ent (E)
def exC : Term.C := ⟨1, [0, 1, 2], [[3], [4]]⟩
theorem exC_right : Term.right exC = true := by decide
def exE : E := ⟨1, 1, [1, 0], 0, 0, 0⟩
def exP1 : Pr := ⟨exC, [exE], fun _ => 0, false⟩
def exM0 : Msg.M := ⟨4, 0, 0, 1, 0, 1, false, Msg.rec0, Msg.ent0, 0, 0, Msg.conf0⟩
def exM1 : Msg.M := ⟨6, 1, 0, 1, 0, 1, true, Msg.rec0, Msg.ent0, 0, 0, Msg.conf0⟩
def exP2 : Pr := exP1.hear exM0
def exP3 : Pr := exP2.hear exM1
theorem ex_cut1 : (new exC).next (cutE [1, 0]) ((new exC).mayCut (new exC).z [1, 0]) = exP1 /\ (new exC).made (cutE [1, 0]) ((new exC).mayCut (new exC).z [1, 0]) = exE /\ (new exC).err (cutE [1, 0]) ((new exC).mayCut (new exC).z [1, 0]) = 0 := by
 have h : (new exC).err (cutE [1, 0]) ((new exC).mayCut (new exC).z [1, 0]) = 0 := by decide
 refine ⟨?_, ?_, h⟩
 . unfold Pr.next; rw [if_pos h]; rfl
 . unfold Pr.made; rw [if_pos h]; rfl
theorem ex_cut2 : exP1.next (cutE [1, 0]) (exP1.mayCut exP1.z [1, 0]) = exP1 /\ exP1.made (cutE [1, 0]) (exP1.mayCut exP1.z [1, 0]) = Msg.ent0 /\ exP1.err (cutE [1, 0]) (exP1.mayCut exP1.z [1, 0]) = 1 := by
 have h : exP1.err (cutE [1, 0]) (exP1.mayCut exP1.z [1, 0]) = 1 := by decide
 refine ⟨zjb (by rw [h]; decide), ?_, h⟩
 unfold Pr.made; rw [if_neg (by rw [h]; decide)]
theorem ex_hear1 : exP1.hears exM0 = true := by decide
theorem ex_p2 : exP2 = ⟨exC, [exE], upd (fun _ => 0) 0 1, false⟩ := by unfold exP2 Pr.hear; rw [if_pos ex_hear1]; rfl
theorem ex_hear2 : exP2.hears exM1 = true := by rw [ex_p2]; decide
theorem ex_p3 : exP3 = ⟨exC, [exE], upd (upd (fun _ => 0) 0 1) 1 1, true⟩ := by unfold exP3 Pr.hear; rw [if_pos ex_hear2, ex_p2]; rfl
theorem ex_cut3 : exP3.next (cutE [2, 0]) (exP3.mayCut exP3.z [2, 0]) = exP3 /\ exP3.made (cutE [2, 0]) (exP3.mayCut exP3.z [2, 0]) = Msg.ent0 /\ exP3.err (cutE [2, 0]) (exP3.mayCut exP3.z [2, 0]) = 120 := by
 have h : exP3.err (cutE [2, 0]) (exP3.mayCut exP3.z [2, 0]) = 120 := by
  unfold Pr.err
  rw [if_pos (by rw [ex_p3])]
 refine ⟨zjb (by rw [h]; decide), ?_, h⟩
 unfold Pr.made; rw [if_neg (by rw [h]; decide)]
theorem ex_ok1 : exP1.Ok := by
 have := (new_ok exC_right).next (fits_cut (new_ok exC_right) (new exC).z [1, 0])
 rwa [ex_cut1.1] at this
theorem zs7 : exP3.Ok := (ex_ok1.hear exM0).hear exM1
theorem ex_committed : exP3.committed = 1 := by
 have h := zrs zs7
 rw [<- h, ex_p3]
 decide
theorem ex_missing : exP3.missing 2 = [exE] := by rw [ex_p3]; decide
def exS0 : Se := ⟨exC, []⟩
def exS1 : Se := exS0.hear 0 [exE]
def exS2 : Se := exS1.hear 1 []
theorem ex_s1h : exS0.hears 0 [exE] = true := by decide
theorem ex_s1 : exS1 = ⟨exC, [(0, [exE])]⟩ := by unfold exS1 Se.hear; rw [if_pos ex_s1h]; rfl
theorem ex_s2h : exS1.hears 1 [] = true := by rw [ex_s1]; decide
theorem ex_s2 : exS2 = ⟨exC, [(0, [exE]), (1, [])]⟩ := by unfold exS2 Se.hear; rw [if_pos ex_s2h, ex_s1]; rfl
theorem ex_done : exS2.done = true := by rw [ex_s2]; decide
theorem ex_long : exS2.long = [exE] := by rw [ex_s2]; rfl
end Go.Proofs.YtnoeconcpgdjlaaGreat.Quo
namespace Go.Proofs.YtnoeconcpgdjlaaGreat.Term
def gRow (m nd : Int) (s : Pack.St) : Pack.St × List Int := Rec.readsM nd (s.num m).1 (s.num m).2
def gRows (m nd : Int) (s : Pack.St) : Nat -> Pack.St × List (List Int)
 | 0 => (s, [])
 | k + 1 => ((gRow m nd (gRows m nd s k).1).1, (gRows m nd s k).2 ++ [(gRow m nd (gRows m nd s k).1).2])
theorem zo2 (m nd : Int) (s : Pack.St) (k : Nat) : (gRows m nd s k).2.length = k := by
 induction k with
 | zero => rfl
 | succ k ih => simp [gRows, ih]
theorem zq3 (m nd : Int) (s : Pack.St) : (gRow m nd s).2.length = (s.num m).2 := Rec.readsM_len _ _ _
def gA (l : List UInt8) : Pack.St × Nat := Pack.St.num ⟨l, 0⟩ 64
def gB (m1 nd : Int) (l : List UInt8) : Pack.St × List Int := gRow m1 nd (gA l).1
def gC (m1 nd : Int) (l : List UInt8) : Pack.St × Nat := (gB m1 nd l).1.num 8
def gD (m1 m2 nd : Int) (l : List UInt8) : Pack.St × List (List Int) := gRows m2 nd (gC m1 nd l).1 (gC m1 nd l).2
def gread (m1 m2 nd : Int) (l : List UInt8) : C := ⟨(gA l).2, (gB m1 nd l).2, (gD m1 m2 nd l).2⟩
def gok (m1 m2 nd : Int) (l : List UInt8) : Bool := ((gD m1 m2 nd l).1.done == 0) && right (gread m1 m2 nd l)
theorem zqv (s : Pack.St) : gRow 16 16 s = zbp s := rfl
theorem zio (s : Pack.St) (k : Nat) : gRows 16 16 s k = zcc s k := by
 induction k with
 | zero => rfl
 | succ k ih => simp only [gRows, zcc, ih, zqv]
theorem zsn (l : List UInt8) : gok 16 16 16 l = zdy l := by
 have h : gD 16 16 16 l = stD l := zio _ _
 unfold gok zdy gread read
 rw [h]
 rfl
theorem zir (l : List UInt8) : gread 16 16 16 l = read l := by
 have h : gD 16 16 16 l = stD l := zio _ _
 unfold gread read
 rw [h]
 rfl
theorem zhg {m nd : Int} {s : Pack.St} (h : (gRow m nd s).1.err = 0) : s.err = 0 := Rec.num_err (Rec.reads_err _ h)
theorem zi5 {m nd : Int} {s : Pack.St} (h : (gRow m nd s).1.err = 0) : s.left = row (gRow m nd s).2 ++ (gRow m nd s).1.left := by
 have h1 := Rec.reads_err _ h
 have l1 := Rec.num_left h1
 have l2 := Rec.reads_left _ h
 unfold row
 rw [zq3, List.append_assoc]
 show s.left = Pack.num (s.num m).2 ++ (Rec.numsOf (Rec.readsM nd (s.num m).1 (s.num m).2).2 ++ (Rec.readsM nd (s.num m).1 (s.num m).2).1.left)
 rw [<- l2]
 exact l1
theorem zoh {m nd : Int} {s : Pack.St} : ∀ k, (gRows m nd s k).1.err = 0 -> s.err = 0 := by
 intro k
 induction k with
 | zero => intro h; exact h
 | succ k ih => intro h; exact ih (zhg h)
theorem znd {m nd : Int} {s : Pack.St} : ∀ k, (gRows m nd s k).1.err = 0 -> s.left = zbz (gRows m nd s k).2 ++ (gRows m nd s k).1.left := by
 intro k
 induction k with
 | zero => intro _; simp [gRows, zbz]
 | succ k ih =>
  intro h
  have h1 : (gRow m nd (gRows m nd s k).1).1.err = 0 := h
  have l1 := zi5 h1
  have l2 := ih (zhg h1)
  show _ = zbz ((gRows m nd s k).2 ++ [(gRow m nd (gRows m nd s k).1).2]) ++ (gRow m nd (gRows m nd s k).1).1.left
  rw [zkn, List.append_assoc, <- l1]
  exact l2
theorem zma {m1 m2 nd : Int} {l : List UInt8} (h : gok m1 m2 nd l = true) : text (gread m1 m2 nd l) = l := by
 unfold gok at h
 rw [Bool.and_eq_true, beq_iff_eq] at h
 obtain ⟨hd, hr⟩ := h
 obtain ⟨d1, d2⟩ := Rec.done_zero hd
 have eD : (gRows m2 nd (gC m1 nd l).1 (gC m1 nd l).2).1.err = 0 := d2
 have eC : ((gB m1 nd l).1.num 8).1.err = 0 := zoh _ eD
 have eB : (gRow m1 nd (gA l).1).1.err = 0 := Rec.num_err eC
 have eA : (Pack.St.num ⟨l, 0⟩ 64).1.err = 0 := zhg eB
 have lD0 := znd _ eD
 have lD : (gC m1 nd l).1.left = zbz (gD m1 m2 nd l).2 := by
  rw [lD0]
  show zbz (gD m1 m2 nd l).2 ++ (gD m1 m2 nd l).1.left = _
  rw [d1, List.append_nil]
 have lC : (gB m1 nd l).1.left = Pack.num (gC m1 nd l).2 ++ (gC m1 nd l).1.left := Rec.num_left eC
 have lB : (gA l).1.left = row (gB m1 nd l).2 ++ (gB m1 nd l).1.left := zi5 eB
 have lA : l = Pack.num (gA l).2 ++ (gA l).1.left := Rec.num_left (s := ⟨l, 0⟩) (most := 64) eA
 have hlen : (gD m1 m2 nd l).2.length = (gC m1 nd l).2 := zo2 _ _ _ _
 unfold text gread
 simp only
 rw [hlen, <- lD, <- lC, <- lB, show (((gA l).2 : Nat) : Int).toNat = (gA l).2 from rfl, <- lA]
theorem zpx {b l : List UInt8} (h : Crc.cutOf b = some l) : l ++ Crc.low (Crc.sum l) = b := by
 unfold Crc.cutOf at h
 split at h
 . cases h
 . split at h
   . rename_i hc
     injection h with h
     rw [<- h]
     exact hc
   . cases h
theorem dec_iff {b : List UInt8} {c : C} : dec b = some c ↔ right c = true /\ enc c = b := by
 constructor
 . intro h
   unfold dec at h
   split at h
   . cases h
   . rename_i l hc
     split at h
     . rename_i hok
       injection h with h
       subst h
       rw [<- zsn] at hok
       have ht := zma hok
       rw [zir] at ht
       have hr : right (read l) = true := by
        unfold gok at hok
        rw [Bool.and_eq_true, zir] at hok
        exact hok.2
       refine ⟨hr, ?_⟩
       unfold enc
       rw [ht]
       exact zpx hc
     . cases h
 . rintro ⟨h1, rfl⟩
   exact dec_enc h1
theorem dec_cut {b : List UInt8} (hc : Crc.cutOf b = none) : dec b = none := by
 unfold dec
 rw [hc]
def noC : C := ⟨0, [], []⟩
def errOf : Option C -> Int
 | none => 60
 | some _ => 0
def zau : Option C -> C
 | none => noC
 | some c => c
end Go.Proofs.YtnoeconcpgdjlaaGreat.Term
namespace Go.Proofs.YtnoeconcpgdjlaaGreat.Page
def textOf (x : List UInt8) : List UInt8 := Pack.num x.length ++ x
def frame (x : List UInt8) : List UInt8 := textOf x ++ Crc.low (Crc.sum (textOf x))
def small (x : List UInt8) : Prop := x.length <= 65536
theorem frame_length (x : List UInt8) : (frame x).length = (Pack.num x.length).length + x.length + 4 := by
 unfold frame textOf
 rw [List.length_append, List.length_append, Crc.low_length]
theorem zno (n : Nat) : 1 <= (Pack.num n).length := by
 by_cases h : n < 128
 . rw [Pack.num_low h]; simp
 . rw [Pack.num_high h]; simp
theorem frame_pos (x : List UInt8) : 5 <= (frame x).length := by
 have := zno x.length
 rw [frame_length]
 omega
def first (s : List UInt8) : Option (List UInt8) := if (Pack.St.text ⟨s, 0⟩ 65536).1.err = 0 /\ (frame (Pack.St.text ⟨s, 0⟩ 65536).2).isPrefixOf s = true then some (Pack.St.text ⟨s, 0⟩ 65536).2 else none
theorem zki {x : List UInt8} (h : small x) (r : List UInt8) : Pack.St.text ⟨textOf x ++ r, 0⟩ 65536 = (⟨r, 0⟩, x) := by
 unfold small at h
 unfold Pack.St.text textOf
 rw [List.append_assoc, Pack.read_num _ _ _ _ (by omega) (by omega)]
 simp only []
 rw [if_neg (by rw [List.length_append]; omega), List.take_left, List.drop_left]
theorem zdr (s : Pack.St) (most : Int) (h : 0 <= most) : ((s.num most).2 : Int) <= most := by
 unfold Pack.St.num
 split
 . exact h
 . split
   . exact h
   . split
     . exact h
     . rename_i h3
       unfold Pack.wrong at h3
       simp only
       omega
theorem znb (s : Pack.St) : small (s.text 65536).2 := by
 have := zdr s 65536 (by omega)
 unfold small Pack.St.text
 simp only
 split
 . simp
 . simp only [List.length_take]
   omega
theorem first_iff {s x : List UInt8} : first s = some x ↔ small x /\ frame x <+: s := by
 unfold first
 constructor
 . intro h
   split at h
   . rename_i hc
     injection h with h
     subst h
     exact ⟨znb _, List.isPrefixOf_iff_prefix.1 hc.2⟩
   . cases h
 . rintro ⟨h1, r, rfl⟩
   have h2 : Pack.St.text ⟨frame x ++ r, 0⟩ 65536 = (⟨Crc.low (Crc.sum (textOf x)) ++ r, 0⟩, x) := by
    unfold frame
    rw [List.append_assoc]
    exact zki h1 _
   rw [h2]
   rw [if_pos ⟨rfl, List.isPrefixOf_iff_prefix.2 ⟨r, rfl⟩⟩]
theorem zh9 {x y s : List UInt8} (hx : small x) (hy : small y) (h1 : frame x <+: s) (h2 : frame y <+: s) : x = y := by
 have a := first_iff.2 ⟨hx, h1⟩
 have b := first_iff.2 ⟨hy, h2⟩
 rw [a] at b
 injection b
theorem zfj {x : List UInt8} (h : small x) (r : List UInt8) : first (frame x ++ r) = some x := first_iff.2 ⟨h, r, rfl⟩
theorem zpo {x : List UInt8} (h : small x) {n : Nat} (hn : n < (frame x).length) : first ((frame x).take n) = none := by
 cases hf : first ((frame x).take n) with
 | none => rfl
 | some y =>
  obtain ⟨h1, h2⟩ := first_iff.1 hf
  have h3 : frame y <+: frame x := h2.trans (List.take_prefix n _)
  have := zh9 h1 h h3 (List.prefix_refl _)
  subst this
  have := h2.length_le
  rw [List.length_take] at this
  omega
def scanF : Nat -> List UInt8 -> List (List UInt8) × Nat
 | 0, _ => ([], 0)
 | k + 1, s => match first s with
  | none => ([], 0)
  | some x => (x :: (scanF k (s.drop (frame x).length)).1, (frame x).length + (scanF k (s.drop (frame x).length)).2)
theorem zls {k : Nat} {s x : List UInt8} (h : first s = some x) : scanF (k + 1) s = (x :: (scanF k (s.drop (frame x).length)).1, (frame x).length + (scanF k (s.drop (frame x).length)).2) := by
 show (match first s with
  | none => ([], 0)
  | some x => (x :: (scanF k (s.drop (frame x).length)).1, (frame x).length + (scanF k (s.drop (frame x).length)).2)) = _
 rw [h]
def scan (s : List UInt8) : List (List UInt8) × Nat := scanF s.length s
theorem first_nil : first [] = none := by
 cases hf : first [] with
 | none => rfl
 | some x =>
  have h1 := (first_iff.1 hf).2.length_le
  have h2 := frame_pos x
  rw [List.length_nil] at h1
  omega
theorem zgx : ∀ (k : Nat) (s : List UInt8) (j : Nat), s.length <= k -> s.length <= j -> scanF k s = scanF j s := by
 intro k
 induction k with
 | zero =>
  intro s j hk hj
  obtain rfl := List.eq_nil_of_length_eq_zero (Nat.le_zero.1 hk)
  cases j with
  | zero => rfl
  | succ j => unfold scanF; rw [first_nil]
 | succ k ih =>
  intro s j hk hj
  cases j with
  | zero =>
   obtain rfl := List.eq_nil_of_length_eq_zero (Nat.le_zero.1 hj)
   unfold scanF
   rw [first_nil]
  | succ j =>
   unfold scanF
   cases hf : first s with
   | none => rfl
   | some x =>
    have hp := frame_pos x
    have hl : (s.drop (frame x).length).length = s.length - (frame x).length := List.length_drop
    simp only
    rw [ih _ j (by omega) (by omega)]
theorem zct {s : List UInt8} (h : first s = none) : scan s = ([], 0) := by
 unfold scan
 cases s.length with
 | zero => rfl
 | succ k => unfold scanF; rw [h]
theorem zfy {s x : List UInt8} (h : first s = some x) : scan s = (x :: (scan (s.drop (frame x).length)).1, (frame x).length + (scan (s.drop (frame x).length)).2) := by
 have h1 := (first_iff.1 h).2.length_le
 have hp := frame_pos x
 have hl : (s.drop (frame x).length).length = s.length - (frame x).length := List.length_drop
 unfold scan
 rw [zgx s.length s (s.length + 1) (Nat.le_refl _) (by omega)]
 rw [zls h, zgx s.length _ _ (by omega) (Nat.le_refl _)]
def bytes (l : List (List UInt8)) : List UInt8 := (l.map frame).flatten
theorem zo1 : bytes [] = [] := rfl
theorem zb2 (x : List UInt8) (l : List (List UInt8)) : bytes (x :: l) = frame x ++ bytes l := by simp [bytes]
theorem zii (a b : List (List UInt8)) : bytes (a ++ b) = bytes a ++ bytes b := by simp [bytes]
theorem bytes_snoc (l : List (List UInt8)) (x : List UInt8) : bytes (l ++ [x]) = bytes l ++ frame x := by simp [bytes]
theorem zg2 : ∀ (l : List (List UInt8)) (r : List UInt8), (∀ x ∈ l, small x) -> scan (bytes l ++ r) = (l ++ (scan r).1, (bytes l).length + (scan r).2) := by
 intro l
 induction l with
 | nil => intro r _; simp [bytes]
 | cons x l ih =>
  intro r h
  rw [zb2, List.append_assoc, zfy (zfj (h x (by simp)) _), List.drop_left, ih r (fun y hy => h y (by simp [hy])), List.length_append]
  simp only [List.cons_append]
  rw [Nat.add_assoc]
theorem scan_all {l : List (List UInt8)} (h : ∀ x ∈ l, small x) : scan (bytes l) = (l, (bytes l).length) := by
 have := zg2 l [] h
 rw [List.append_nil, zct first_nil] at this
 rw [this]
 simp
theorem scan_is : ∀ (k : Nat) (s : List UInt8), s.length <= k -> (∀ x ∈ (scan s).1, small x) /\ bytes (scan s).1 = s.take (scan s).2 /\ (scan s).2 = (bytes (scan s).1).length := by
 intro k
 induction k with
 | zero =>
  intro s hk
  obtain rfl := List.eq_nil_of_length_eq_zero (Nat.le_zero.1 hk)
  rw [zct first_nil]
  exact ⟨fun x hx => (by cases hx), rfl, rfl⟩
 | succ k ih =>
  intro s hk
  cases hf : first s with
  | none => rw [zct hf]; exact ⟨fun x hx => (by cases hx), rfl, rfl⟩
  | some x =>
   obtain ⟨h1, r, rfl⟩ := first_iff.1 hf
   have hp := frame_pos x
   rw [List.length_append] at hk
   rw [zfy hf, List.drop_left]
   obtain ⟨i1, i2, i3⟩ := ih r (by omega)
   refine ⟨?_, ?_, ?_⟩
   . intro y hy
     rcases List.mem_cons.1 hy with rfl | hy
     . exact h1
     . exact i1 y hy
   . simp only
     rw [zb2, i2, List.take_length_add_append]
   . simp only
     rw [zb2, List.length_append, i3]
def whole : List (List UInt8) -> Nat -> Nat
 | [], _ => 0
 | x :: l, n => if (frame x).length <= n then whole l (n - (frame x).length) + 1 else 0
theorem whole_le : ∀ (l : List (List UInt8)) (n : Nat), whole l n <= l.length := by
 intro l
 induction l with
 | nil => intro n; exact Nat.le_refl _
 | cons x l ih =>
  intro n
  simp only [whole]
  split
  . have := ih (n - (frame x).length); simp only [List.length_cons]; omega
  . omega
theorem zov : ∀ (l : List (List UInt8)) (n : Nat), (∀ x ∈ l, small x) -> scan ((bytes l).take n) = (l.take (whole l n), (bytes (l.take (whole l n))).length) := by
 intro l
 induction l with
 | nil => intro n _; simp [bytes, whole, zct first_nil]
 | cons x l ih =>
  intro n h
  have hx := h x (by simp)
  rw [zb2]
  simp only [whole]
  by_cases hn : (frame x).length <= n
  . rw [if_pos hn, List.take_succ_cons, zb2]
    have ht : (frame x ++ bytes l).take n = frame x ++ (bytes l).take (n - (frame x).length) := by
     rw [List.take_append, List.take_of_length_le hn]
    rw [ht, zfy (zfj hx _), List.drop_left, ih _ (fun y hy => h y (by simp [hy])), List.length_append]
  . rw [if_neg hn, List.take_zero, zo1]
    have ht : (frame x ++ bytes l).take n = (frame x).take n := List.take_append_of_le_length (by omega)
    rw [ht, zct (zpo hx (by omega))]
    rfl
theorem zo5 : ∀ (l : List (List UInt8)) (n k : Nat), k <= l.length -> ((bytes (l.take k)).length <= n ↔ k <= whole l n) := by
 intro l
 induction l with
 | nil => intro n k hk; simp at hk; subst hk; simp [bytes]
 | cons x l ih =>
  intro n k hk
  cases k with
  | zero => simp [bytes]
  | succ k =>
   rw [List.take_succ_cons, zb2, List.length_append]
   simp only [whole]
   split
   . rename_i hn
     have := ih (n - (frame x).length) k (by simpa using hk)
     omega
   . omega
end Go.Proofs.YtnoeconcpgdjlaaGreat.Page
namespace Go.Proofs.YtnoeconcpgdjlaaGreat.Page
def peek (b : List UInt8) : Pack.St × Nat := Pack.St.num ⟨b.take (min b.length 9), 0⟩ 65536
def headOf (b : List UInt8) : Nat := min b.length 9 - (peek b).1.left.length
def sizeOf (b : List UInt8) : Nat := headOf b + (peek b).2 + 4
theorem zon {b : List UInt8} (h : (peek b).1.err = 0) : (∃ r, b = Pack.num (peek b).2 ++ r) /\ headOf b = (Pack.num (peek b).2).length := by
 have h1 := Rec.num_left h
 simp only at h1
 have hm : (b.take (min b.length 9)).length = min b.length 9 := by simp
 have h2 : min b.length 9 = (Pack.num (peek b).2).length + (peek b).1.left.length := by
  rw [<- hm, h1, List.length_append]
  rfl
 refine ⟨⟨(peek b).1.left ++ b.drop (min b.length 9), ?_⟩, by unfold headOf; omega⟩
 rw [<- List.append_assoc]
 conv => lhs; rw [<- List.take_append_drop (min b.length 9) b, h1]
 rfl
theorem peek_le (b : List UInt8) : (peek b).2 <= 65536 := by
 have := zdr ⟨b.take (min b.length 9), 0⟩ 65536 (by omega)
 unfold peek
 omega
theorem peek_left (b : List UInt8) : (peek b).1.left.length <= min b.length 9 := by
 unfold peek Pack.St.num Pack.St.fail
 split
 . simp
 . split
   . simp
   . split
     . simp
     . simp only [List.length_drop, List.length_take]
       omega
theorem zgw {x : List UInt8} (h : small x) (r : List UInt8) : (peek (frame x ++ r)).1.err = 0 /\ (peek (frame x ++ r)).2 = x.length := by
 unfold small at h
 have h9 : (Pack.num x.length).length <= 9 := Pack.num_nine (by omega)
 have e : frame x ++ r = Pack.num x.length ++ (x ++ Crc.low (Crc.sum (textOf x)) ++ r) := by unfold frame textOf; simp
 have e2 : (frame x ++ r).take (min (frame x ++ r).length 9) = Pack.num x.length ++ (x ++ Crc.low (Crc.sum (textOf x)) ++ r).take (min (frame x ++ r).length 9 - (Pack.num x.length).length) := by
  rw [e, List.take_append, List.take_of_length_le]
  simp only [List.length_append]
  omega
 unfold peek
 rw [e2, Pack.read_num _ _ _ _ (by omega) (by omega)]
 exact ⟨rfl, rfl⟩
theorem first_wrong {b : List UInt8} (h : (peek b).1.err ≠ 0) : first b = none := by
 cases hf : first b with
 | none => rfl
 | some x =>
  obtain ⟨h1, r, rfl⟩ := first_iff.1 hf
  exact absurd (zgw h1 r).1 h
theorem zcu {x : List UInt8} (h : small x) (r : List UInt8) : headOf (frame x ++ r) = (Pack.num x.length).length /\ sizeOf (frame x ++ r) = (frame x).length := by
 obtain ⟨h1, h2⟩ := zgw h r
 have h3 := (zon h1).2
 rw [h2] at h3
 refine ⟨h3, ?_⟩
 unfold sizeOf
 rw [h3, h2, frame_length]
theorem first_short {b : List UInt8} (h : b.length < sizeOf b) : first b = none := by
 cases hf : first b with
 | none => rfl
 | some x =>
  obtain ⟨h1, r, rfl⟩ := first_iff.1 hf
  rw [(zcu h1 r).2, List.length_append] at h
  omega
theorem first_size {b x : List UInt8} (h : first b = some x) : sizeOf b = (frame x).length /\ headOf b = (Pack.num x.length).length /\ small x /\ (frame x).length <= b.length := by
 obtain ⟨h1, r, rfl⟩ := first_iff.1 h
 exact ⟨(zcu h1 r).2, (zcu h1 r).1, h1, by simp⟩
theorem cut_len {c W : List UInt8} (h : Crc.cutOf c = some W) : W.length + 4 = c.length := by
 unfold Crc.cutOf at h
 split at h
 . cases h
 . split at h
   . injection h with h
     rw [<- h, List.length_take]
     omega
   . cases h
theorem zn3 {x : List UInt8} : Crc.cutOf (frame x) = some (textOf x) := Crc.cut_put _
theorem first_cutOf {b : List UInt8} (h0 : (peek b).1.err = 0) (h : sizeOf b <= b.length) : first b = (Crc.cutOf (b.take (sizeOf b))).map (List.drop (headOf b)) := by
 cases hf : first b with
 | some x =>
  obtain ⟨h1, r, rfl⟩ := first_iff.1 hf
  rw [(zcu h1 r).1, (zcu h1 r).2, List.take_left, zn3]
  simp [textOf]
 | none =>
  obtain ⟨⟨r, hb⟩, hh⟩ := zon h0
  cases hc : Crc.cutOf (b.take (sizeOf b)) with
  | none => rfl
  | some W =>
   exfalso
   generalize hn : (peek b).2 = n at *
   have hle := peek_le b
   rw [hn] at hle
   have hsz : sizeOf b = (Pack.num n).length + n + 4 := by unfold sizeOf; rw [hh, hn]
   have hrl : n + 4 <= r.length := by
    rw [hsz, hb, List.length_append] at h
    omega
   have ht : b.take (sizeOf b) = Pack.num n ++ r.take (n + 4) := by
    rw [hsz, hb, List.take_append, List.take_of_length_le (by omega)]
    congr 2
    omega
   have htl : (b.take (sizeOf b)).length = (Pack.num n).length + n + 4 := by rw [List.length_take]; omega
   have hxn : (r.take n).length = n := by rw [List.length_take]; omega
   have h4 : (b.take (sizeOf b)).take ((b.take (sizeOf b)).length - 4) = textOf (r.take n) := by
    rw [htl, ht]
    unfold textOf
    rw [hxn, List.take_append, List.take_of_length_le (by omega), List.take_take]
    congr 2
    omega
   unfold Crc.cutOf at hc
   split at hc
   . cases hc
   . rw [h4] at hc
     split at hc
     . rename_i hq
       have : first b = some (r.take n) := first_iff.2 ⟨by unfold small; omega, by unfold frame; rw [hq]; exact List.take_prefix _ _⟩
       rw [this] at hf
       cases hf
     . cases hc
def offs (l : List (List UInt8)) : List Int := (List.range l.length).map fun i => (((bytes (l.take i)).length : Nat) : Int)
@[simp] theorem offs_length (l : List (List UInt8)) : (offs l).length = l.length := by simp [offs]
theorem offs_get (l : List (List UInt8)) (i : Nat) (h : i < (offs l).length) : (offs l)[i] = (((bytes (l.take i)).length : Nat) : Int) := by simp [offs]
theorem offs_snoc (l : List (List UInt8)) (x : List UInt8) : offs (l ++ [x]) = offs l ++ [(((bytes l).length : Nat) : Int)] := by
 unfold offs
 rw [List.length_append, List.length_singleton, List.range_succ, List.map_append]
 congr 1
 . refine List.map_congr_left fun i hi => ?_
   rw [List.take_append_of_le_length (by have := List.mem_range.1 hi; omega)]
 . simp
theorem zeg (l : List (List UInt8)) (i : Nat) : (bytes (l.take i)).length <= (bytes l).length := by
 conv => rhs; rw [<- List.take_append_drop i l, zii, List.length_append]
 omega
theorem count_le (l : List (List UInt8)) : 5 * l.length <= (bytes l).length := by
 induction l with
 | nil => simp
 | cons x l ih =>
  have := frame_pos x
  rw [zb2, List.length_append, List.length_cons]
  omega
def ends (l : List (List UInt8)) : List Nat := (List.range l.length).map fun i => (bytes (l.take (i + 1))).length
@[simp] theorem ends_length (l : List (List UInt8)) : (ends l).length = l.length := by simp [ends]
theorem ends_snoc (l : List (List UInt8)) (x : List UInt8) : ends (l ++ [x]) = ends l ++ [(bytes l).length + (frame x).length] := by
 unfold ends
 rw [List.length_append, List.length_singleton, List.range_succ, List.map_append]
 congr 1
 . refine List.map_congr_left fun i hi => ?_
   rw [List.take_append_of_le_length (by have := List.mem_range.1 hi; omega)]
 . rw [List.map_singleton, List.take_of_length_le (by simp), bytes_snoc, List.length_append]
theorem scan_more {m : List (List UInt8)} {l r : List UInt8} (hl : l = bytes m ++ r) (hm : ∀ x ∈ m, small x) (h : first r = none) : (scan l).1 = m /\ (scan l).2 = (bytes m).length := by
 rw [hl, zg2 m r hm, zct h]
 simp
structure St where
 l : List (List UInt8)
 k : Nat
 off : Bool
def St.syn (S : St) : Nat := (bytes (S.l.take S.k)).length
structure St.Ok (S : St) : Prop where
 small : ∀ x ∈ S.l, small x
 le : S.k <= S.l.length
 max : (bytes S.l).length <= 65536
def fromBytes (b : List UInt8) : St := ⟨(scan (b.take 65536)).1, (scan (b.take 65536)).1.length, false⟩
theorem fromBytes_ok (b : List UInt8) : (fromBytes b).Ok := by
 obtain ⟨h1, h2, h3⟩ := scan_is _ (b.take 65536) (Nat.le_refl _)
 refine ⟨h1, Nat.le_refl _, ?_⟩
 show (bytes (scan (b.take 65536)).1).length <= 65536
 rw [h2]
 simp
 omega
def room (S : St) (b : List UInt8) : Bool := decide ((bytes S.l).length + (frame b).length <= 65536)
def St.append (S : St) (b : List UInt8) : St := if S.off then S else if room S b then ⟨S.l ++ [b], S.k, S.off⟩ else S
def St.appendErr (S : St) (b : List UInt8) : Int := if S.off then 81 else if room S b then 0 else 80
def St.appendAt (S : St) (b : List UInt8) : Nat := if S.off then 0 else if room S b then (bytes S.l).length else 0
def St.sync (S : St) : St := if S.off then S else ⟨S.l, S.l.length, S.off⟩
def St.stay (S : St) (keep : Int) : Nat := S.syn + min keep.toNat ((bytes S.l).length - S.syn)
def St.crash (S : St) (keep : Int) : St := ⟨S.l.take (whole S.l (S.stay keep)), whole S.l (S.stay keep), false⟩
theorem syn_le (S : St) : S.syn <= (bytes S.l).length := zeg _ _
theorem stay_le (S : St) (keep : Int) : S.stay keep <= (bytes S.l).length := by
 have := syn_le S
 unfold St.stay
 omega
theorem St.Ok.append {S : St} (h : S.Ok) (b : List UInt8) : (S.append b).Ok := by
 unfold St.append
 split
 . exact h
 . split
   . rename_i hr
     have hr' := of_decide_eq_true hr
     refine ⟨?_, ?_, ?_⟩
     . intro x hx
       rcases List.mem_append.1 hx with hx | hx
       . exact h.small x hx
       . obtain rfl := List.mem_singleton.1 hx
         unfold Page.small
         have := frame_length x
         omega
     . show S.k <= (S.l ++ [b]).length
       have := h.le
       simp
       omega
     . show (bytes (S.l ++ [b])).length <= 65536
       rw [bytes_snoc, List.length_append]
       exact hr'
   . exact h
theorem St.Ok.sync {S : St} (h : S.Ok) : S.sync.Ok := by
 unfold St.sync
 split
 . exact h
 . exact ⟨h.small, Nat.le_refl _, h.max⟩
theorem St.Ok.crash {S : St} (h : S.Ok) (keep : Int) : (S.crash keep).Ok := by
 refine ⟨fun x hx => h.small x (List.mem_of_mem_take hx), ?_, Nat.le_trans (zeg _ _) h.max⟩
 show whole S.l (S.stay keep) <= (S.l.take (whole S.l (S.stay keep))).length
 have := whole_le S.l (S.stay keep)
 simp
 omega
theorem scan_stay {S : St} (h : S.Ok) (keep : Int) : scan ((bytes S.l).take (S.stay keep)) = ((S.crash keep).l, (bytes (S.crash keep).l).length) := zov S.l _ h.small
theorem crash_syn {S : St} (keep : Int) : (S.crash keep).syn = (bytes (S.crash keep).l).length := by
 unfold St.syn St.crash
 simp only
 rw [List.take_take, Nat.min_self]
theorem crash_ge {S : St} (h : S.Ok) (keep : Int) : S.k <= whole S.l (S.stay keep) := by
 rw [<- zo5 _ _ _ h.le]
 unfold St.stay St.syn
 omega
end Go.Proofs.YtnoeconcpgdjlaaGreat.Page
namespace Go.Proofs.YtnoeconcpgdjlaaGreat.Rep
open Ent (E)
structure What where
 l : List E
 sealed : Bool
def step (w : What) (f : List UInt8) : Option What :=
 if w.sealed = true then none else if f = [0] then some ⟨w.l, true⟩ else match Ent.dec Ent.vd f with
 | none => none
 | some e => if Ent.follows w.l e = true then some ⟨w.l ++ [e], false⟩ else none
def zc3 (o : Option What) (fs : List (List UInt8)) : Option What := fs.foldl (fun o f => o.bind (step · f)) o
def readF (fs : List (List UInt8)) : Option What := zc3 (some ⟨[], false⟩) fs
theorem zhn : ∀ fs : List (List UInt8), zc3 none fs = none := by
 intro fs
 induction fs with
 | nil => rfl
 | cons f fs ih => exact ih
theorem zdm (o : Option What) (fs gs : List (List UInt8)) : zc3 o (fs ++ gs) = zc3 (zc3 o fs) gs := by
 unfold zc3
 rw [List.foldl_append]
theorem zcy (fs : List (List UInt8)) (f : List UInt8) : readF (fs ++ [f]) = (readF fs).bind (step · f) := by
 unfold readF
 rw [zdm]
 rfl
theorem zmo {fs : List (List UInt8)} {w : What} (h : readF fs = some w) (n : Nat) : ∃ v, readF (fs.take n) = some v := by
 have h1 : zc3 (readF (fs.take n)) (fs.drop n) = some w := by
  unfold readF
  rw [<- zdm, List.take_append_drop]
  exact h
 cases hv : readF (fs.take n) with
 | none => rw [hv, zhn] at h1; cases h1
 | some v => exact ⟨v, rfl⟩
theorem zqf {w v : What} {f : List UInt8} (h : step w f = some v) : w.sealed = false /\ ((f = [0] /\ v = ⟨w.l, true⟩) \/ ∃ e, Ent.dec Ent.vd f = some e /\ Ent.follows w.l e = true /\ v = ⟨w.l ++ [e], false⟩) := by
 unfold step at h
 split at h
 . cases h
 . next hs =>
   refine ⟨by simpa using hs, ?_⟩
   split at h
   . next hf =>
     injection h with h
     exact .inl ⟨hf, h.symm⟩
   . split at h
     . cases h
     . next e he =>
       split at h
       . next hfo =>
         injection h with h
         exact .inr ⟨e, he, hfo, h.symm⟩
       . cases h
theorem zjg {l : List E} {e : E} (h : Ent.isChain l) (hf : Ent.follows l e = true) : Ent.isChain (l ++ [e]) := by
 unfold Ent.isChain at *
 rw [Ent.chain_snoc, if_pos h, if_pos hf]
 simp
theorem zj8 : ∀ (n : Nat) (fs : List (List UInt8)), fs.length = n -> ∀ w, readF fs = some w -> Ent.isChain w.l := by
 intro n
 induction n with
 | zero =>
  intro fs hl w h
  rw [List.length_eq_zero_iff.1 hl] at h
  injection h with h
  rw [<- h]
  rfl
 | succ n ih =>
  intro fs hl w h
  obtain ⟨gs, f, rfl⟩ : ∃ gs f, fs = gs ++ [f] := ⟨fs.dropLast, fs.getLast (by intro e; rw [e] at hl; cases hl), (List.dropLast_concat_getLast _).symm⟩
  rw [zcy] at h
  obtain ⟨v, hv, hs⟩ := Option.bind_eq_some_iff.1 h
  have hc := ih gs (by simp at hl; omega) v hv
  rcases (zqf hs).2 with ⟨_, rfl⟩ | ⟨e, _, hf, rfl⟩
  . exact hc
  . exact zjg hc hf
structure Rp where
 id : Int
 term : Int
 s : Page.St
 w : What
structure Rp.Ok (r : Rp) : Prop where
 sto : r.s.Ok
 is : readF r.s.l = some r.w
theorem Rp.Ok.chain {r : Rp} (h : r.Ok) : Ent.isChain r.w.l := zj8 _ _ rfl _ h.is
def Rp.len (r : Rp) : Nat := r.w.l.length
inductive OCase where
 | there | other | shut | gap | next
def Rp.ocase (r : Rp) (e : E) : OCase :=
 if e.number <= (r.len : Int) then (if Ent.alike (r.w.l.getD (e.number - 1).toNat Msg.ent0) e = true then .there else .other)
 else if r.w.sealed = true then .shut
 else if (r.len : Int) + 1 < e.number then .gap
 else if Ent.follows r.w.l e = true then .next else .other
def Rp.orderErr (r : Rp) (e : E) : Int := match r.ocase e with
 | .there => 0
 | .other => 112
 | .shut => 110
 | .gap => 111
 | .next => r.s.appendErr (Ent.enc e)
def Rp.order (r : Rp) (e : E) : Rp := match r.ocase e with
 | .next => if r.s.appendErr (Ent.enc e) = 0 then ⟨r.id, r.term, r.s.append (Ent.enc e), ⟨r.w.l ++ [e], r.w.sealed⟩⟩ else r
 | _ => r
def Rp.shutErr (r : Rp) : Int := if r.w.sealed = true then 0 else r.s.appendErr [0]
def Rp.shut (r : Rp) : Rp := if r.w.sealed = true then r else if r.s.appendErr [0] = 0 then ⟨r.id, r.term, r.s.append [0], ⟨r.w.l, true⟩⟩ else r
def Rp.sync (r : Rp) : Rp := ⟨r.id, r.term, r.s.sync, r.w⟩
def told (r : Rp) (k : Int) (m : Msg.M) : Msg.M := ⟨k, r.id, m.src, r.term, 0, (r.len : Int), r.w.sealed, Msg.rec0, Msg.ent0, 0, 0, Msg.conf0⟩
def tell (r : Rp) (k : Int) (m : Msg.M) (err : Int) : Rp × Msg.M × Int := if err = 0 then (r.sync, told r k m, 0) else (r, Msg.none0, err)
def Rp.take (r : Rp) (m : Msg.M) : Rp × Msg.M × Int :=
 if m.dst ≠ r.id \/ m.term ≠ r.term \/ Msg.right m = false then (r, Msg.none0, 1)
 else if m.kind = 3 then tell (r.order m.ent) 4 m (r.orderErr m.ent)
 else if m.kind = 5 then tell r.shut 6 m r.shutErr
 else (r, Msg.none0, 1)
def Rp.withS (r : Rp) (s : Page.St) : Rp := ⟨r.id, r.term, s, (readF s.l).getD r.w⟩
def Rp.crash (r : Rp) (keep : Int) : Rp := r.withS (r.s.crash keep)
def Rp.off (r : Rp) (o : Bool) : Rp := ⟨r.id, r.term, ⟨r.s.l, r.s.k, o⟩, r.w⟩
theorem zep {S : Page.St} {b : List UInt8} (h : S.appendErr b = 0) : S.off = false /\ S.append b = ⟨S.l ++ [b], S.k, S.off⟩ := by
 unfold Page.St.appendErr at h
 unfold Page.St.append
 cases ho : S.off with
 | true => rw [ho] at h; cases h
 | false =>
  rw [ho] at h
  cases hr : Page.room S b with
  | true => exact ⟨rfl, by simp⟩
  | false => rw [hr] at h; cases h
theorem ziw {e : E} (h : Ent.right e = true) : Ent.enc e ≠ [0] := by
 intro he
 have h1 : (Ent.enc e).length = 1 := by rw [he]; rfl
 unfold Ent.enc at h1
 rw [List.length_append, Crc.low_length] at h1
 omega
theorem zhp {l : List E} {e : E} (h : Ent.follows l e = true) : Ent.right e = true := ((Ent.follows_iff l e).1 h).1
theorem zlq {w : What} {e : E} (hs : w.sealed = false) (hf : Ent.follows w.l e = true) : step w (Ent.enc e) = some ⟨w.l ++ [e], false⟩ := by
 have hr := zhp hf
 have hd : Ent.dec Ent.vd (Ent.enc e) = some e := Ent.dec_vd_iff.2 ⟨hr, rfl⟩
 unfold step
 rw [if_neg (by simp [hs]), if_neg (ziw hr), hd]
 simp only
 rw [if_pos hf]
theorem ocase_next {r : Rp} {e : E} (h : r.ocase e = .next) : r.w.sealed = false /\ Ent.follows r.w.l e = true := by
 unfold Rp.ocase at h
 split at h
 . split at h <;> cases h
 . split at h
   . cases h
   . next hs =>
     split at h
     . cases h
     . split at h
       . next hf => exact ⟨by simpa using hs, hf⟩
       . cases h
theorem Rp.Ok.order {r : Rp} (h : r.Ok) (e : E) : (r.order e).Ok := by
 unfold Rp.order
 cases hc : r.ocase e with
 | next =>
  simp only
  split
  . next he =>
    obtain ⟨hs, hf⟩ := ocase_next hc
    obtain ⟨_, ha⟩ := zep he
    refine ⟨h.sto.append _, ?_⟩
    show readF (r.s.append (Ent.enc e)).l = _
    rw [ha, zcy, h.is]
    show step r.w (Ent.enc e) = _
    rw [zlq hs hf, hs]
  . exact h
 | _ => exact h
theorem Rp.Ok.shut {r : Rp} (h : r.Ok) : r.shut.Ok := by
 unfold Rp.shut
 split
 . exact h
 . next hs =>
   split
   . next he =>
     obtain ⟨_, ha⟩ := zep he
     refine ⟨h.sto.append _, ?_⟩
     show readF (r.s.append [0]).l = _
     rw [ha, zcy, h.is]
     show step r.w [0] = _
     unfold step
     rw [if_neg hs, if_pos rfl]
   . exact h
theorem zsa (S : Page.St) : S.sync.l = S.l := by
 unfold Page.St.sync
 split <;> rfl
theorem Rp.Ok.sync {r : Rp} (h : r.Ok) : r.sync.Ok := ⟨h.sto.sync, by show readF r.s.sync.l = _; rw [zsa]; exact h.is⟩
theorem Rp.Ok.tell {r : Rp} (h : r.Ok) (k : Int) (m : Msg.M) (err : Int) : (tell r k m err).1.Ok := by
 unfold Rep.tell
 split
 . exact h.sync
 . exact h
theorem Rp.Ok.take {r : Rp} (h : r.Ok) (m : Msg.M) : (r.take m).1.Ok := by
 unfold Rp.take
 split
 . exact h
 . split
   . exact (h.order _).tell _ _ _
   . split
     . exact h.shut.tell _ _ _
     . exact h
theorem Rp.Ok.crash {r : Rp} (h : r.Ok) (keep : Int) : (r.crash keep).Ok := by
 obtain ⟨v, hv⟩ := zmo h.is (Page.whole r.s.l (r.s.stay keep))
 refine ⟨h.sto.crash keep, ?_⟩
 show readF (r.s.crash keep).l = some ((readF (r.s.crash keep).l).getD r.w)
 have : readF (r.s.crash keep).l = some v := hv
 rw [this]
 rfl
theorem Rp.Ok.off {r : Rp} (h : r.Ok) (o : Bool) : (r.off o).Ok := ⟨⟨h.sto.small, h.sto.le, h.sto.max⟩, h.is⟩
structure Calm (r : Rp) : Prop where
 ok : r.Ok
 off : r.s.off = false
 all : r.s.k = r.s.l.length
theorem Calm.crash {r : Rp} (h : Calm r) (keep : Int) : r.crash keep = r := by
 have hge := Page.crash_ge h.ok.sto keep
 have hl : r.s.crash keep = r.s := by
  have h1 : (r.s.crash keep).l = r.s.l := by
   show r.s.l.take _ = _
   exact List.take_of_length_le (by rw [<- h.all]; exact hge)
  have h2 : (r.s.crash keep).k = r.s.k := by
   show Page.whole r.s.l (r.s.stay keep) = _
   have := Page.whole_le r.s.l (r.s.stay keep)
   have := h.all
   omega
  have h3 : (r.s.crash keep).off = r.s.off := by rw [h.off]; rfl
  cases hs : r.s with
  | mk l k o =>
   rw [hs] at h1 h2 h3
   cases hc : Page.St.crash ⟨l, k, o⟩ keep with
   | mk l' k' o' =>
    rw [hc] at h1 h2 h3
    simp only at h1 h2 h3
    rw [h1, h2, h3]
 unfold Rp.crash Rp.withS
 rw [hl, h.ok.is]
 rfl
theorem ziu {r : Rp} (h : r.Ok) (ho : r.s.off = false) : Calm r.sync := by
 refine ⟨h.sync, ?_, ?_⟩
 . show r.s.sync.off = false
   unfold Page.St.sync
   rw [if_neg (by simp [ho])]
   exact ho
 . show r.s.sync.k = r.s.sync.l.length
   unfold Page.St.sync
   rw [if_neg (by simp [ho])]
theorem zne {r : Rp} {e : E} (h : r.orderErr e ≠ 0) : r.order e = r := by
 unfold Rp.orderErr at h
 unfold Rp.order
 cases hc : r.ocase e with
 | next => rw [hc] at h; simp only at h ⊢; rw [if_neg h]
 | _ => rfl
theorem zou {r : Rp} (h : r.shutErr ≠ 0) : r.shut = r := by
 unfold Rp.shutErr at h
 unfold Rp.shut
 split
 . rfl
 . next hs =>
   rw [if_neg hs] at h
   rw [if_neg h]
theorem zpq (r : Rp) (e : E) : (r.order e).s.off = r.s.off := by
 unfold Rp.order
 cases r.ocase e with
 | next =>
  simp only
  split
  . next he => show (r.s.append _).off = _; rw [(zep he).2]
  . rfl
 | _ => rfl
theorem zqi (r : Rp) : r.shut.s.off = r.s.off := by
 unfold Rp.shut
 split
 . rfl
 . split
   . next he => show (r.s.append _).off = _; rw [(zep he).2]
   . rfl
theorem Calm.take {r : Rp} (h : Calm r) (m : Msg.M) : Calm (r.take m).1 := by
 unfold Rp.take
 split
 . exact h
 . split
   . unfold tell
     split
     . exact ziu (h.ok.order _) (by rw [zpq]; exact h.off)
     . next he => rw [zne he]; exact h
   . split
     . unfold tell
       split
       . exact ziu h.ok.shut (by rw [zqi]; exact h.off)
       . next he => rw [zou he]; exact h
     . exact h
theorem zfw (r : Rp) (e : E) : r.w.l <+: (r.order e).w.l /\ (r.order e).w.sealed = r.w.sealed /\ (r.w.sealed = true -> (r.order e).w = r.w) := by
 unfold Rp.order
 cases hc : r.ocase e with
 | next =>
  have hs := (ocase_next hc).1
  simp only
  split
  . exact ⟨List.prefix_append _ _, rfl, fun h => by rw [hs] at h; cases h⟩
  . exact ⟨List.prefix_rfl, rfl, fun _ => rfl⟩
 | _ => exact ⟨List.prefix_rfl, rfl, fun _ => rfl⟩
theorem shut_grows (r : Rp) : r.shut.w.l = r.w.l /\ (r.w.sealed = true -> r.shut.w = r.w) := by
 unfold Rp.shut
 split
 . exact ⟨rfl, fun _ => rfl⟩
 . next hs =>
   split
   . exact ⟨rfl, fun h => absurd h hs⟩
   . exact ⟨rfl, fun _ => rfl⟩
theorem tell_w (r : Rp) (k : Int) (m : Msg.M) (err : Int) : (tell r k m err).1.w = r.w := by
 unfold tell
 split <;> rfl
theorem take_grows (r : Rp) (m : Msg.M) : r.w.l <+: (r.take m).1.w.l /\ (r.w.sealed = true -> (r.take m).1.w = r.w) := by
 unfold Rp.take
 split
 . exact ⟨List.prefix_rfl, fun _ => rfl⟩
 . split
   . rw [tell_w]
     exact ⟨(zfw r _).1, (zfw r _).2.2⟩
   . split
     . rw [tell_w]
       exact ⟨by rw [(shut_grows r).1]; exact List.prefix_rfl, (shut_grows r).2⟩
     . exact ⟨List.prefix_rfl, fun _ => rfl⟩
end Go.Proofs.YtnoeconcpgdjlaaGreat.Rep
namespace Go.Proofs.YtnoeconcpgdjlaaGreat.Rep
open Ent (E)
theorem order_keeps (r : Rp) (e : E) : (r.order e).id = r.id /\ (r.order e).term = r.term := by
 unfold Rp.order
 cases r.ocase e with
 | next =>
  simp only
  split <;> exact ⟨rfl, rfl⟩
 | _ => exact ⟨rfl, rfl⟩
theorem shut_keeps (r : Rp) : r.shut.id = r.id /\ r.shut.term = r.term := by
 unfold Rp.shut
 split
 . exact ⟨rfl, rfl⟩
 . split <;> exact ⟨rfl, rfl⟩
def From (l : List E) (r : Rp) : Prop := r.w.l = l.take r.w.l.length
theorem zqj {l : List E} (h : Ent.isChain l) {k : Nat} (hk : k < l.length) : Ent.follows (l.take k) l[k] = true := by
 have h1 : Ent.isChain (l.take (k + 1)) := by
  unfold Ent.isChain at *
  rw [Ent.chain_take, h, List.length_take]
 rw [zam l k hk] at h1
 exact (Ent.isChain_snoc h1).2
theorem From.order {l : List E} {r : Rp} (hl : Ent.isChain l) (h : From l r) {k : Nat} (hk : k < l.length) : From l (r.order l[k]) := by
 unfold Rp.order
 cases hc : r.ocase l[k] with
 | next =>
  simp only
  split
  . obtain ⟨_, hf⟩ := ocase_next hc
    have h1 := ((Ent.follows_iff _ _).1 hf).2.1
    have h2 := ((Ent.follows_iff _ _).1 (zqj hl hk)).2.1
    have hkl : k = r.w.l.length := by
     rw [List.length_take, Nat.min_eq_left (by omega)] at h2
     omega
    subst hkl
    unfold From at h ⊢
    simp only [List.length_append, List.length_cons, List.length_nil]
    rw [zam l _ hk, <- h]
  . exact h
 | _ => exact h
theorem From.take {l : List E} {r : Rp} (hl : Ent.isChain l) (h : From l r) {m : Msg.M} (hm : m.kind = 3) {k : Nat} (hk : k < l.length) (he : m.ent = l[k]) : From l (r.take m).1 := by
 unfold Rp.take
 split
 . exact h
 . unfold From
   rw [tell_w, he]
   exact h.order hl hk
theorem From.two {l : List E} {a b : Rp} (ha : From l a) (hb : From l b) (n : Nat) (h1 : n <= a.len) (h2 : n <= b.len) : a.w.l.take n = b.w.l.take n := by
 unfold From at ha hb
 unfold Rp.len at h1 h2
 rw [ha, hb, List.take_take, List.take_take, Nat.min_eq_left h1, Nat.min_eq_left h2]
end Go.Proofs.YtnoeconcpgdjlaaGreat.Rep
namespace Go.Proofs.YtnoeconcpgdjlaaGreat.Quo
open Ent (E)
open Rep (Rp From)
def c3 : Term.C := ⟨1, [0, 1, 2], [[3]]⟩
theorem c3_right : Term.right c3 = true := by decide
structure Fx where
 p : Pr
 r : Nat -> Rp
structure Inv (x : Fx) : Prop where
 ok : x.p.Ok
 c : x.p.c = c3
 calm : ∀ i : Nat, i < 3 -> Rep.Calm (x.r i)
 id : ∀ i : Nat, i < 3 -> (x.r i).id = (i : Int) /\ (x.r i).term = 1
 pre : ∀ i : Nat, i < 3 -> From x.p.l (x.r i)
 has : ∀ i : Nat, i < 3 -> x.p.f (i : Int) <= ((x.r i).len : Int)
structure Step where
 kind : Int
 who : Int
 n : Int
 lost : Bool
def whoOf (w : Int) : Nat := (Int.tmod (Int.tmod w 3 + 3) 3).toNat
theorem whoOf_lt (w : Int) : whoOf w < 3 /\ Int.tmod (Int.tmod w 3 + 3) 3 = (whoOf w : Int) := by
 unfold whoOf
 have h1 : -3 < Int.tmod w 3 /\ Int.tmod w 3 < 3 := ⟨by have := Int.lt_tmod_of_pos w (b := 3) (by omega); omega, Int.tmod_lt_of_pos w (by omega)⟩
 have h2 : 0 <= Int.tmod (Int.tmod w 3 + 3) 3 := Int.tmod_nonneg 3 (by omega)
 have h3 : Int.tmod (Int.tmod w 3 + 3) 3 < 3 := Int.tmod_lt_of_pos _ (by omega)
 omega
def orderOf (x : Fx) (i : Nat) (n : Int) : Msg.M := ⟨3, 0, i, 1, 0, 0, false, Msg.rec0, x.p.l.getD (n - 1).toNat Msg.ent0, 0, 0, Msg.conf0⟩
def sealOf (i : Nat) : Msg.M := ⟨5, 0, i, 1, 0, 0, false, Msg.rec0, Msg.ent0, 0, 0, Msg.conf0⟩
def Fx.give (x : Fx) (i : Nat) (m : Msg.M) (lost : Bool) : Fx := ⟨if ((x.r i).take m).2.2 = 0 /\ lost = false then x.p.hear ((x.r i).take m).2.1 else x.p, fun j => if j = i then ((x.r i).take m).1 else x.r j⟩
def Fx.step (x : Fx) (s : Step) : Fx :=
 if s.kind = 0 then ⟨x.p.next (cutE [(x.p.l.length : Int) + 1]) (x.p.mayCut x.p.z [(x.p.l.length : Int) + 1]), x.r⟩
 else if s.kind = 1 then (if s.n < 1 \/ (x.p.l.length : Int) < s.n then x else x.give (whoOf s.who) (orderOf x (whoOf s.who) s.n) s.lost)
 else if s.kind = 2 then x.give (whoOf s.who) (sealOf (whoOf s.who)) s.lost
 else if s.kind = 3 then ⟨x.p, fun j => if j = whoOf s.who then (x.r j).crash s.n else x.r j⟩
 else x.give (whoOf s.who) Msg.none0 s.lost
theorem zoj {l m : List E} {r : Rp} (h : From l r) (hm : l <+: m) : From m r := by
 unfold From at h ⊢
 have hl : r.w.l.length <= l.length := by
  have h1 := congrArg List.length h
  rw [List.length_take] at h1
  omega
 obtain ⟨t, rfl⟩ := hm
 rw [List.take_append_of_le_length hl]
 exact h
theorem take_told {r : Rp} {m : Msg.M} (h : (r.take m).2.2 = 0) : ∃ k, (k = 4 \/ k = 6) /\ (r.take m).2.1 = Rep.told (r.take m).1 k m := by
 unfold Rp.take at h ⊢
 split at h
 . cases h
 . next h1 =>
   rw [if_neg h1]
   split at h
   . next h2 =>
     rw [if_pos h2]
     unfold Rep.tell at h ⊢
     split at h
     . next h3 => rw [if_pos h3]; exact ⟨4, .inl rfl, rfl⟩
     . next h3 => exact absurd h h3
   . next h2 =>
     rw [if_neg h2]
     split at h
     . next h4 =>
       rw [if_pos h4]
       unfold Rep.tell at h ⊢
       split at h
       . next h3 => rw [if_pos h3]; exact ⟨6, .inr rfl, rfl⟩
       . next h3 => exact absurd h h3
     . cases h
theorem take_ids (r : Rp) (m : Msg.M) : (r.take m).1.id = r.id /\ (r.take m).1.term = r.term := by
 have ht : ∀ (q : Rp) k err, q.id = r.id -> q.term = r.term -> (Rep.tell q k m err).1.id = r.id /\ (Rep.tell q k m err).1.term = r.term := fun q k err h1 h2 => by
  unfold Rep.tell
  split <;> exact ⟨h1, h2⟩
 unfold Rp.take
 split
 . exact ⟨rfl, rfl⟩
 . split
   . exact ht _ _ _ (Rep.order_keeps r m.ent).1 (Rep.order_keeps r m.ent).2
   . split
     . exact ht _ _ _ (Rep.shut_keeps r).1 (Rep.shut_keeps r).2
     . exact ⟨rfl, rfl⟩
theorem zk9 {x : Fx} (h : Inv x) {i : Nat} (hi : i < 3) {m : Msg.M} (hf : From x.p.l ((x.r i).take m).1) (lost : Bool) : Inv (x.give i m lost) /\ (x.give i m lost).p.l = x.p.l := by
 have hg := Rep.take_grows (x.r i) m
 have hlen : (x.r i).len <= ((x.r i).take m).1.len := hg.1.length_le
 have hp : (x.give i m lost).p = x.p \/ ∃ m', (x.give i m lost).p = x.p.hear m' /\ m'.src = (i : Int) /\ m'.number = (((x.r i).take m).1.len : Int) := by
  unfold Fx.give
  split
  . next hc =>
    refine .inr ⟨_, rfl, ?_⟩
    obtain ⟨k, _, hk⟩ := take_told hc.1
    rw [hk]
    exact ⟨(take_ids (x.r i) m).1.trans (h.id i hi).1, rfl⟩
  . exact .inl rfl
 have hk : (x.give i m lost).p.c = x.p.c /\ (x.give i m lost).p.l = x.p.l /\ (x.give i m lost).p.Ok /\ ∀ j : Nat, j < 3 -> (x.give i m lost).p.f j <= (if j = i then (((x.r i).take m).1.len : Int) else ((x.r j).len : Int)) := by
  rcases hp with hp | ⟨m', hp, hs, hn⟩
  . rw [hp]
    refine ⟨rfl, rfl, h.ok, fun j hj => ?_⟩
    have := h.has j hj
    split
    . next e => subst e; omega
    . exact this
  . rw [hp]
    have hk := hear_keeps x.p m'
    refine ⟨hk.1, hk.2.1, h.ok.hear m', fun j hj => ?_⟩
    have hj' := h.has j hj
    unfold Pr.hear
    split
    . show upd x.p.f m'.src m'.number j <= _
      unfold upd
      rw [hs, hn]
      by_cases e : j = i
      . subst e
        rw [if_pos rfl, if_pos rfl]
        omega
      . rw [if_neg (by omega), if_neg e]
        exact hj'
    . split
      . next e => subst e; omega
      . exact hj'
 refine ⟨⟨hk.2.2.1, hk.1.trans h.c, fun j hj => ?_, fun j hj => ?_, fun j hj => ?_, fun j hj => ?_⟩, hk.2.1⟩
 . show Rep.Calm (if j = i then _ else _)
   split
   . exact (h.calm i hi).take m
   . exact h.calm j hj
 . show (if j = i then ((x.r i).take m).1 else x.r j).id = _ /\ (if j = i then ((x.r i).take m).1 else x.r j).term = _
   split
   . next e => subst e; exact ⟨(take_ids (x.r j) m).1.trans (h.id j hj).1, (take_ids (x.r j) m).2.trans (h.id j hj).2⟩
   . exact h.id j hj
 . rw [hk.2.1]
   show From x.p.l (if j = i then _ else _)
   split
   . exact hf
   . exact h.pre j hj
 . have := hk.2.2.2 j hj
   show _ <= (((if j = i then ((x.r i).take m).1 else x.r j).len : Nat) : Int)
   split
   . next e => rw [if_pos e] at this; exact this
   . next e => rw [if_neg e] at this; exact this
theorem zp4 {x : Fx} (h : Inv x) {i : Nat} (hi : i < 3) {n : Int} (h1 : ¬ (n < 1 \/ (x.p.l.length : Int) < n)) : From x.p.l ((x.r i).take (orderOf x i n)).1 := by
 have hk : (n - 1).toNat < x.p.l.length := by omega
 refine (h.pre i hi).take h.ok.chain (m := orderOf x i n) rfl hk ?_
 show x.p.l.getD (n - 1).toNat Msg.ent0 = _
 rw [List.getD_eq_getElem?_getD, List.getElem?_eq_getElem hk]
 rfl
theorem zo6 (r : Rp) (i : Nat) : (r.take (sealOf i)).1.w.l = r.w.l := by
 unfold Rp.take
 split
 . rfl
 . rw [if_neg (by show ¬ ((5 : Int) = 3); omega), if_pos (by rfl), Rep.tell_w]
   exact (Rep.shut_grows r).1
theorem take_none {r : Rp} (h : r.term = 1) : r.take Msg.none0 = (r, Msg.none0, 1) := by
 unfold Rp.take
 rw [if_pos (.inr (.inl (by rw [h]; show ¬ ((0 : Int) = 1); omega)))]
theorem zqb {l : List E} {r q : Rp} (h : From l r) (hw : q.w.l = r.w.l) : From l q := by
 unfold From at h ⊢
 rw [hw]
 exact h
theorem zpw {x : Fx} (h : Inv x) {i : Nat} (hi : i < 3) (lost : Bool) : x.give i Msg.none0 lost = x := by
 unfold Fx.give
 rw [take_none (h.id i hi).2]
 simp only
 rw [if_neg (by intro e; exact absurd e.1 (by omega))]
 cases x with
 | mk p r =>
  simp only
  congr 1
  funext j
  split
  . next e => rw [e]
  . rfl
theorem step_inv {x : Fx} (h : Inv x) (s : Step) : Inv (x.step s) /\ x.p.l <+: (x.step s).p.l := by
 have hw := (whoOf_lt s.who).1
 unfold Fx.step
 split
 . have hn := zl5 x.p (cutE [(x.p.l.length : Int) + 1]) (x.p.mayCut x.p.z [(x.p.l.length : Int) + 1])
   have hpre : x.p.l <+: (x.p.next (cutE [(x.p.l.length : Int) + 1]) (x.p.mayCut x.p.z [(x.p.l.length : Int) + 1])).l := by
    unfold Pr.next
    split
    . exact List.prefix_append _ _
    . exact List.prefix_rfl
   refine ⟨⟨h.ok.next (fits_cut h.ok _ _), hn.1.trans h.c, h.calm, h.id, fun i hi => zoj (h.pre i hi) hpre, fun i hi => ?_⟩, hpre⟩
   show (x.p.next _ _).f i <= _
   rw [hn.2.1]
   exact h.has i hi
 . split
   . split
     . exact ⟨h, List.prefix_rfl⟩
     . next h1 =>
       obtain ⟨a, b⟩ := zk9 h hw (zp4 h hw h1) s.lost
       exact ⟨a, by rw [b]; exact List.prefix_rfl⟩
   . split
     . obtain ⟨a, b⟩ := zk9 h hw (m := sealOf (whoOf s.who)) (zqb (h.pre _ hw) (zo6 _ _)) s.lost
       exact ⟨a, by rw [b]; exact List.prefix_rfl⟩
     . split
       . refine ⟨⟨h.ok, h.c, fun j hj => ?_, fun j hj => ?_, fun j hj => ?_, fun j hj => ?_⟩, List.prefix_rfl⟩
         all_goals
          have hcr := (h.calm j hj).crash s.n
          have e : (if j = whoOf s.who then (x.r j).crash s.n else x.r j) = x.r j := by
           split
           . exact hcr
           . rfl
         . show Rep.Calm (if j = whoOf s.who then (x.r j).crash s.n else x.r j)
           rw [e]; exact h.calm j hj
         . show (if j = whoOf s.who then (x.r j).crash s.n else x.r j).id = _ /\ (if j = whoOf s.who then (x.r j).crash s.n else x.r j).term = _
           rw [e]; exact h.id j hj
         . show From x.p.l (if j = whoOf s.who then (x.r j).crash s.n else x.r j)
           rw [e]; exact h.pre j hj
         . show x.p.f j <= (((if j = whoOf s.who then (x.r j).crash s.n else x.r j).len : Nat) : Int)
           rw [e]; exact h.has j hj
       . rw [zpw h hw]
         exact ⟨h, List.prefix_rfl⟩
theorem zd5 {x : Fx} (i : Nat) (m : Msg.M) (lost : Bool) {j : Nat} (hj : (x.r j).w.sealed = true) : ((x.give i m lost).r j).w = (x.r j).w := by
 show (if j = i then ((x.r i).take m).1 else x.r j).w = _
 split
 . next e => subst e; exact (Rep.take_grows (x.r j) m).2 hj
 . rfl
theorem zfs {x : Fx} (h : Inv x) (s : Step) {j : Nat} (hj3 : j < 3) (hj : (x.r j).w.sealed = true) : ((x.step s).r j).w = (x.r j).w := by
 unfold Fx.step
 split
 . rfl
 . split
   . split
     . rfl
     . exact zd5 _ _ _ hj
   . split
     . exact zd5 _ _ _ hj
     . split
       . show (if j = whoOf s.who then (x.r j).crash s.n else x.r j).w = _
         split
         . rw [(h.calm j hj3).crash]
         . rfl
       . exact zd5 _ _ _ hj
def Fx.steps (x : Fx) (l : List Step) : Fx := l.foldl Fx.step x
theorem zrz {x : Fx} (h : Inv x) {i j : Nat} (hi : i < 3) (hj : j < 3) (hij : i ≠ j) {t : List E} (hti : (x.r i).w.l.length <= t.length) (htj : (x.r j).w.l.length <= t.length) (hp : t <+: x.p.l) :
 x.p.committed <= (t.length : Int) /\ t.take x.p.committed.toNat = x.p.l.take x.p.committed.toNat := by
 have hle : x.p.committed <= (t.length : Int) := by
  rcases Int.lt_or_le (t.length : Int) x.p.committed with hl | hl
  . exfalso
    have h1 := (zdv h.ok x.p.committed).2 (Int.le_refl _)
    have h2 : Term.majority x.p.c = 2 := by rw [h.c]; rfl
    have h3 : x.p.c.seqs = [0, 1, 2] := by rw [h.c]; rfl
    rw [h2, zqu, h3] at h1
    have a0 := h.has 0 (by omega)
    have a1 := h.has 1 (by omega)
    have a2 := h.has 2 (by omega)
    unfold Rep.Rp.len at a0 a1 a2
    have key : ∀ k : Nat, k < 3 -> (k = i \/ k = j) -> x.p.f (k : Int) < x.p.committed := fun k hk he => by
     have := h.has k hk
     unfold Rep.Rp.len at this
     rcases he with e | e <;> subst e <;> omega
    simp only [List.countP_cons, List.countP_nil, decide_eq_true_eq] at h1
    have k0 := key 0 (by omega)
    have k1 := key 1 (by omega)
    have k2 := key 2 (by omega)
    have c0 : ((0 : Nat) : Int) = 0 := rfl
    have c1 : ((1 : Nat) : Int) = 1 := rfl
    have c2 : ((2 : Nat) : Int) = 2 := rfl
    rw [c0] at k0; rw [c1] at k1; rw [c2] at k2
    have hcases : (i = 0 /\ j = 1) \/ (i = 0 /\ j = 2) \/ (i = 1 /\ j = 0) \/ (i = 1 /\ j = 2) \/ (i = 2 /\ j = 0) \/ (i = 2 /\ j = 1) := by omega
    rcases hcases with ⟨e1, e2⟩ | ⟨e1, e2⟩ | ⟨e1, e2⟩ | ⟨e1, e2⟩ | ⟨e1, e2⟩ | ⟨e1, e2⟩ <;> subst e1 <;> subst e2
    . have := k0 (by omega); have := k1 (by omega)
      rw [if_neg (show ¬ x.p.committed <= x.p.f 0 by omega), if_neg (show ¬ x.p.committed <= x.p.f 1 by omega)] at h1
      split at h1 <;> omega
    . have := k0 (by omega); have := k2 (by omega)
      rw [if_neg (show ¬ x.p.committed <= x.p.f 0 by omega), if_neg (show ¬ x.p.committed <= x.p.f 2 by omega)] at h1
      split at h1 <;> omega
    . have := k0 (by omega); have := k1 (by omega)
      rw [if_neg (show ¬ x.p.committed <= x.p.f 0 by omega), if_neg (show ¬ x.p.committed <= x.p.f 1 by omega)] at h1
      split at h1 <;> omega
    . have := k1 (by omega); have := k2 (by omega)
      rw [if_neg (show ¬ x.p.committed <= x.p.f 1 by omega), if_neg (show ¬ x.p.committed <= x.p.f 2 by omega)] at h1
      split at h1 <;> omega
    . have := k0 (by omega); have := k2 (by omega)
      rw [if_neg (show ¬ x.p.committed <= x.p.f 0 by omega), if_neg (show ¬ x.p.committed <= x.p.f 2 by omega)] at h1
      split at h1 <;> omega
    . have := k1 (by omega); have := k2 (by omega)
      rw [if_neg (show ¬ x.p.committed <= x.p.f 1 by omega), if_neg (show ¬ x.p.committed <= x.p.f 2 by omega)] at h1
      split at h1 <;> omega
  . exact hl
 refine ⟨hle, ?_⟩
 have h0 := (committed_le h.ok).1
 obtain ⟨u, hu⟩ := hp
 rw [<- hu, List.take_append_of_le_length (by omega)]
def start : Fx := ⟨new c3, fun i => ⟨i, 1, ⟨[], 0, false⟩, ⟨[], false⟩⟩⟩
end Go.Proofs.YtnoeconcpgdjlaaGreat.Quo
namespace Go.Proofs.YtnoeconcpgdjlaaGreat.Rep
set_option maxRecDepth 100000
open Ent (E)
def exE (n : Int) : E := ⟨n, 1, [1], 0, 0, 0⟩
end Go.Proofs.YtnoeconcpgdjlaaGreat.Rep
namespace Go.Proofs.YtnoeconcpgdjlaaGreat.Seg
structure What where
 l : List Rec.R
 trimmed : Nat
 broken : Bool
def zrl (r : Rec.R) : List UInt8 := 1 :: Rec.enc r
def zom (n : Nat) : List UInt8 := 2 :: Pack.num n
def asRec (f : List UInt8) : Option Rec.R := match f with
 | [] => none
 | k :: rest => if k = 1 then Rec.dec rest else none
def zlf (many trimmed : Nat) (f : List UInt8) : Option Nat := match f with
 | [] => none
 | k :: rest => if k = 2 /\ (Pack.St.num ⟨rest, 0⟩ (many : Int)).1.done = 0 /\ trimmed <= (Pack.St.num ⟨rest, 0⟩ (many : Int)).2 then some (Pack.St.num ⟨rest, 0⟩ (many : Int)).2 else none
def step (w : What) (f : List UInt8) : What := match w.broken with
 | true => w
 | false => match asRec f with
  | some r => ⟨w.l ++ [r], w.trimmed, false⟩
  | none => match zlf w.l.length w.trimmed f with
   | some n => ⟨w.l, n, false⟩
   | none => ⟨w.l, w.trimmed, true⟩
def readF (fs : List (List UInt8)) : What := fs.foldl step ⟨[], 0, false⟩
theorem zcy (fs : List (List UInt8)) (f : List UInt8) : readF (fs ++ [f]) = step (readF fs) f := by
 unfold readF
 rw [List.foldl_append]
 rfl
theorem zdr (s : Pack.St) (most : Int) (h : 0 <= most) : ((s.num most).2 : Int) <= most := by
 unfold Pack.St.num
 split
 . exact h
 . split
   . exact h
   . split
     . exact h
     . rename_i h3
       unfold Pack.wrong at h3
       simp only
       omega
theorem zjh {many trimmed n : Nat} {f : List UInt8} (h : zlf many trimmed f = some n) : trimmed <= n /\ n <= many := by
 unfold zlf at h
 split at h
 . cases h
 . rename_i k rest
   split at h
   . rename_i hc
     injection h with h
     have := zdr ⟨rest, 0⟩ (many : Int) (by omega)
     omega
   . cases h
theorem zke {f : List UInt8} {r : Rec.R} (h : asRec f = some r) : Rec.right r = true := by
 unfold asRec at h
 split at h
 . cases h
 . split at h
   . exact (Rec.enc_dec h).1
   . cases h
inductive Next (w : What) : What -> Prop where
 | same : w.broken = true -> Next w w
 | one (r : Rec.R) : w.broken = false -> Rec.right r = true -> Next w ⟨w.l ++ [r], w.trimmed, false⟩
 | trim (n : Nat) : w.broken = false -> w.trimmed <= n -> n <= w.l.length -> Next w ⟨w.l, n, false⟩
 | stop : w.broken = false -> Next w ⟨w.l, w.trimmed, true⟩
theorem zpp (w : What) (f : List UInt8) : Next w (step w f) := by
 unfold step
 cases hb : w.broken with
 | true => exact .same hb
 | false =>
  cases hr : asRec f with
  | some r => exact .one r hb (zke hr)
  | none =>
   cases ht : zlf w.l.length w.trimmed f with
   | some n => exact .trim n hb (zjh ht).1 (zjh ht).2
   | none => exact .stop hb
structure Good (w : What) : Prop where
 most : w.trimmed <= w.l.length
 right : ∀ r ∈ w.l, Rec.right r = true
theorem Good.next {w v : What} (g : Good w) (h : Next w v) : Good v := by
 cases h with
 | same _ => exact g
 | one r _ hr =>
  refine ⟨?_, fun x hx => ?_⟩
  . have := g.most; simp only [List.length_append, List.length_cons, List.length_nil]; omega
  . rcases List.mem_append.1 hx with h | h
    . exact g.right x h
    . obtain rfl : x = r := by simpa using h
      exact hr
 | trim n _ h1 h2 => exact ⟨h2, g.right⟩
 | stop _ => exact ⟨g.most, g.right⟩
structure Grows (w v : What) : Prop where
 rows : w.l <+: v.l
 trims : w.trimmed <= v.trimmed
theorem Grows.refl (w : What) : Grows w w := ⟨List.prefix_refl _, Nat.le_refl _⟩
theorem Grows.trans {a b c : What} (h : Grows a b) (k : Grows b c) : Grows a c := ⟨h.rows.trans k.rows, Nat.le_trans h.trims k.trims⟩
end Go.Proofs.YtnoeconcpgdjlaaGreat.Seg
namespace Go.Proofs.YtnoeconcpgdjlaaGreat.Seg
def zeroR : Rec.R := ⟨0, 0, [], []⟩
structure Sg where
 s : Page.St
 safe : Nat
def Sg.w (G : Sg) : What := readF G.s.l
def Sg.len (G : Sg) : Nat := G.w.l.length
inductive Case where
 | bad | there | other | above | full | next
def Sg.case (G : Sg) (n : Int) (r : Rec.R) : Case :=
 if n < 0 \/ Rec.right r = false then .bad
 else if n < (G.len : Int) then (if n < (G.w.trimmed : Int) then .there else if Rec.same (G.w.l.getD n.toNat zeroR) r then .there else .other)
 else if (G.len : Int) < n then .above
 else if G.w.broken = true \/ 512 <= G.len then .full
 else .next
def Sg.app (G : Sg) (n : Int) (r : Rec.R) : Sg := match G.case n r with
 | .next => ⟨G.s.append (zrl r), G.safe⟩
 | _ => G
inductive TCase where
 | bad | done | full | next
def Sg.tcase (G : Sg) (n : Int) : TCase := if n < 0 \/ (G.len : Int) < n then .bad else if n <= (G.w.trimmed : Int) then .done else if G.w.broken = true then .full else .next
def Sg.trim (G : Sg) (n : Int) : Sg := match G.tcase n with
 | .next => ⟨G.s.append (zom n.toNat), G.safe⟩
 | _ => G
def Sg.sync (G : Sg) : Sg := if G.s.off then G else ⟨G.s.sync, G.len⟩
def zo9 (S : Page.St) : Sg := ⟨S, (readF S.l).l.length⟩
def Sg.crash (G : Sg) (keep : Int) : Sg := zo9 (G.s.crash keep)
structure Sg.Ok (G : Sg) : Prop where
 ok : G.s.Ok
 all : G.s.k = G.s.l.length -> G.safe = G.len
 low : G.safe <= (readF (G.s.l.take G.s.k)).l.length
theorem zl8 : ∀ (fs : List (List UInt8)) (w : What), (fs.foldl step w).l.length <= w.l.length + fs.length := by
 intro fs
 induction fs with
 | nil => intro w; simp
 | cons f fs ih =>
  intro w
  rw [List.foldl_cons]
  have h1 := ih (step w f)
  have h2 : (step w f).l.length <= w.l.length + 1 := by
   have hn := zpp w f
   generalize step w f = v at hn
   cases hn <;> simp
  simp only [List.length_cons]
  omega
theorem zkj (fs : List (List UInt8)) : (readF fs).l.length <= fs.length := by
 have := zl8 fs ⟨[], 0, false⟩
 simpa [readF] using this
theorem Sg.Ok.count {G : Sg} (h : G.s.Ok) : G.len <= 13107 := by
 have h1 := zkj G.s.l
 have h2 := Page.count_le G.s.l
 have h3 := h.max
 unfold Sg.len Sg.w
 omega
theorem zlm (S : Page.St) (b : List UInt8) : (S.append b).l = S.l /\ (S.append b) = S /\ S.appendErr b ≠ 0 \/ (S.append b).l = S.l ++ [b] /\ (S.append b).k = S.k /\ S.appendErr b = 0 := by
 unfold Page.St.append Page.St.appendErr
 cases ho : S.off with
 | true => exact .inl ⟨by simp, by simp, by simp⟩
 | false =>
  cases hr : Page.room S b with
  | true => exact .inr ⟨by simp, by simp, by simp⟩
  | false => exact .inl ⟨by simp, by simp, by simp⟩
theorem zjk {S : Page.St} {safe : Nat} (h : Sg.Ok ⟨S, safe⟩) (b : List UInt8) : Sg.Ok ⟨S.append b, safe⟩ := by
 rcases zlm S b with ⟨_, e, _⟩ | ⟨e, ek, _⟩
 . rw [e]; exact h
 . have hle := h.ok.le
   simp only at hle
   refine ⟨h.ok.append b, fun hk => ?_, ?_⟩
   . exfalso
     simp only at hk
     rw [e, ek] at hk
     simp at hk
     omega
   . show safe <= (readF ((S.append b).l.take (S.append b).k)).l.length
     rw [e, ek, List.take_append_of_le_length hle]
     exact h.low
theorem Sg.Ok.app {G : Sg} (h : G.Ok) (n : Int) (r : Rec.R) : (G.app n r).Ok := by
 unfold Sg.app
 cases G.case n r <;> first | exact h | exact zjk h _
theorem Sg.Ok.trim {G : Sg} (h : G.Ok) (n : Int) : (G.trim n).Ok := by
 unfold Sg.trim
 cases G.tcase n <;> first | exact h | exact zjk h _
theorem zmp {S : Page.St} (h : S.Ok) (hk : S.k = S.l.length) : (zo9 S).Ok := by
 refine ⟨h, fun _ => rfl, ?_⟩
 show (readF S.l).l.length <= (readF (S.l.take S.k)).l.length
 rw [hk, List.take_length]
 exact Nat.le_refl _
theorem Sg.Ok.crash {G : Sg} (h : G.Ok) (keep : Int) : (G.crash keep).Ok := by
 refine zmp (h.ok.crash keep) ?_
 have := Page.whole_le G.s.l (G.s.stay keep)
 unfold Page.St.crash
 simp
 omega
theorem Sg.Ok.sync {G : Sg} (h : G.Ok) : G.sync.Ok := by
 unfold Sg.sync
 cases ho : G.s.off with
 | true => simpa using h
 | false =>
  have e : G.s.sync = ⟨G.s.l, G.s.l.length, G.s.off⟩ := by unfold Page.St.sync; rw [ho]; rfl
  have hs := h.ok.sync
  rw [e] at hs ⊢
  refine ⟨hs, fun _ => rfl, ?_⟩
  show G.len <= (readF (G.s.l.take G.s.l.length)).l.length
  rw [List.take_length]
  exact Nat.le_refl _
theorem zsa (S : Page.St) : S.sync.l = S.l := by
 unfold Page.St.sync
 split <;> rfl
theorem same_w {S : Page.St} {b : List UInt8} (he : S.appendErr b ≠ 0) : S.append b = S := by
 rcases zlm S b with ⟨_, e, _⟩ | ⟨_, _, hn⟩
 . exact e
 . exact absurd hn he
structure Op where
 kind : Int
 n : Int
 r : Rec.R
 is : Bool
def Op.Fits (o : Op) : Prop := -9223372036854775808 <= o.n /\ o.n <= 9223372036854775807
end Go.Proofs.YtnoeconcpgdjlaaGreat.Seg
