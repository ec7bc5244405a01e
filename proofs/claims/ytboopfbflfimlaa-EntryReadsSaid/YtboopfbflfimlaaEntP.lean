/-
  Layer 5, mathematics: bytes as an entry, read part by part up to what each part may be: it is the same as to read, and to write again.
-/
import Derived.Test.YtboopfbflfimlaaEntVec
import Derived.Test.YtboopfbflfimlaaVecF
namespace Go.Proofs.Ytboopfbflfimlaa
namespace Ent

theorem readsTo_M (s : Pack.St) (k : Nat) : readsTo s k = Rec.readsM 1099511627776 s k := by
  induction k with
  | zero => rfl
  | succ k ih => simp only [readsTo, Rec.readsM, ih]
/-- A vector that is read is written as the same bytes. -/
theorem vd_enc {l : List UInt8} (h : decOk l = true) : vecBytes (vd l) = l := by
  have hok := h
  unfold decOk at h
  rw [Bool.and_eq_true, beq_iff_eq, decide_eq_true_eq] at h
  obtain ⟨h1, h2⟩ := h
  obtain ⟨d1, d2⟩ := Rec.done_zero h2
  have e0 : (Rec.readsM 1099511627776 (Pack.St.num ⟨l, 0⟩ 8).1 (decN l)).1.err = 0 := by rw [← readsTo_M]; exact d2
  have e1 := Rec.reads_err _ e0
  have l1 := Rec.num_left (s := ⟨l, 0⟩) (most := 8) e1
  have l2 := Rec.reads_left _ e0
  rw [← readsTo_M] at l2
  have hn : (decS l).2.length = decN l := readsTo_len _ _
  unfold vd vecBytes
  rw [hok, orNone_true, hn]
  have l2' : (Pack.St.num ⟨l, 0⟩ 8).1.left = Rec.numsOf (decS l).2 := by
    rw [l2]
    show Rec.numsOf (decS l).2 ++ (decS l).1.left = _
    rw [d1, List.append_nil]
  rw [← l2']
  exact l1.symm
theorem decOk_of_right {l : List UInt8} (h : Vec.right (vd l) = true) : decOk l = true := by
  cases hd : decOk l with
  | true => rfl
  | false =>
    exfalso
    unfold vd at h
    rw [hd, orNone_false] at h
    have := (Vec.right_ok h).2.1
    simp at this

/-! The program's reading: each part up to what it may be. -/
def pA (l : List UInt8) : Pack.St × Nat := Pack.St.num ⟨l, 0⟩ 1099511627776
def pB (l : List UInt8) : Pack.St × Nat := (pA l).1.num 2
def pV (l : List UInt8) : Pack.St × List UInt8 := (pB l).1.text 65536
def pT (l : List UInt8) : Pack.St × Nat := (pB l).1.num 1073741824
def pM (l : List UInt8) : Pack.St × Nat := (pT l).1.num 64
def pP (l : List UInt8) : Pack.St × Nat := (pM l).1.num 1099511627776
def pread (l : List UInt8) : Pack.St × E :=
  if (pB l).2 = 1 then ((pV l).1, ⟨(pA l).2, 1, vd (pV l).2, 0, 0, 0⟩)
  else if (pB l).2 = 2 then ((pP l).1, ⟨(pA l).2, 2, [], (pT l).2, (pM l).2, (pP l).2⟩)
  else ((pB l).1, ⟨(pA l).2, (pB l).2, [], 0, 0, 0⟩)
def pok (l : List UInt8) : Bool := ((pread l).1.done == 0) && right (pread l).2
theorem pread_one {l : List UInt8} (h : (pB l).2 = 1) : pread l = ((pV l).1, ⟨(pA l).2, 1, vd (pV l).2, 0, 0, 0⟩) := by unfold pread; rw [if_pos h]
theorem pread_two {l : List UInt8} (h : (pB l).2 = 2) : pread l = ((pP l).1, ⟨(pA l).2, 2, [], (pT l).2, (pM l).2, (pP l).2⟩) := by unfold pread; rw [if_neg (by omega), if_pos h]
theorem pread_else {l : List UInt8} (h1 : (pB l).2 ≠ 1) (h2 : (pB l).2 ≠ 2) : pread l = ((pB l).1, ⟨(pA l).2, (pB l).2, [], 0, 0, 0⟩) := by unfold pread; rw [if_neg h1, if_neg h2]

theorem pread_text {e : E} (h : right e = true) : pread (text e) = (⟨[], 0⟩, e) := by
  obtain ⟨h1, h2⟩ := right_ok h
  have hk : 0 ≤ e.kind ∧ e.kind ≤ 2 := by rcases h2 with ⟨k, _⟩ | ⟨k, _⟩ <;> omega
  have hA : pA (text e) = (⟨Pack.num e.kind.toNat ++ body e, 0⟩, e.number.toNat) := Pack.read_num _ _ _ _ (by omega) (by omega)
  have hB : pB (text e) = (⟨body e, 0⟩, e.kind.toNat) := by
    unfold pB; rw [hA]; exact Pack.read_num _ _ _ _ (by omega) (by omega)
  rcases h2 with ⟨k, v, t1, t2, t3⟩ | ⟨k, v, t1, t2, t3⟩
  · have hl := vecBytes_le v
    have hV : pV (text e) = (⟨[], 0⟩, vecBytes e.cut) := by
      unfold pV; rw [hB, body_one k]
      unfold Pack.St.text
      rw [Pack.read_num _ _ _ _ (by omega) (by omega)]
      simp
    rw [pread_one (by rw [hB]; show e.kind.toNat = 1; omega), hA, hV, vd_back _ v]
    refine congrArg (fun x => (_, x)) ?_
    exact same (by simp only []; omega) k.symm rfl t1.symm t2.symm t3.symm
  · have hT : pT (text e) = (⟨Pack.num e.term.toNat ++ Pack.num e.pos.toNat, 0⟩, e.tag.toNat) := by
      unfold pT; rw [hB, body_two (by omega)]; exact Pack.read_num _ _ _ _ (by omega) (by omega)
    have hM : pM (text e) = (⟨Pack.num e.pos.toNat, 0⟩, e.term.toNat) := by
      unfold pM; rw [hT]; exact Pack.read_num _ _ _ _ (by omega) (by omega)
    have hP : pP (text e) = (⟨[], 0⟩, e.pos.toNat) := by
      unfold pP; rw [hM]
      have := Pack.read_num e.pos.toNat [] 0 1099511627776 (by omega) (by omega)
      rw [List.append_nil] at this
      exact this
    rw [pread_two (by rw [hB]; show e.kind.toNat = 2; omega), hA, hT, hM, hP]
    refine congrArg (fun x => (_, x)) ?_
    exact same (by simp only []; omega) k.symm v.symm (by simp only []; omega) (by simp only []; omega) (by simp only []; omega)
theorem pok_text {e : E} (h : right e = true) : pok (text e) = true := by
  unfold pok
  rw [pread_text h, h]
  rfl
set_option maxHeartbeats 4000000 in
/-- Bytes that are read as an entry are its bytes. -/
theorem text_pread {l : List UInt8} (h : pok l = true) : text (pread l).2 = l := by
  unfold pok at h
  rw [Bool.and_eq_true, beq_iff_eq] at h
  obtain ⟨hd, hr⟩ := h
  obtain ⟨d1, d2⟩ := Rec.done_zero hd
  have h2 := (right_ok hr).2
  have one : (pB l).2 = 1 ∨ (pB l).2 = 2 := by
    by_cases h1 : (pB l).2 = 1
    · exact .inl h1
    · by_cases h2' : (pB l).2 = 2
      · exact .inr h2'
      · rw [pread_else h1 h2'] at h2
        simp only at h2
        omega
  rcases one with h1 | h1
  · rw [pread_one h1] at d1 d2 hr h2 ⊢
    simp only at d1 d2 h2
    have hv : Vec.right (vd (pV l).2) = true := by
      rcases h2 with ⟨_, hv, _⟩ | ⟨h, _⟩
      · exact hv
      · omega
    have d2' : ((pB l).1.text 65536).1.err = 0 := d2
    have eB : (pB l).1.err = 0 := Rec.num_err (Rec.text_err d2')
    have eB' : ((pA l).1.num 2).1.err = 0 := eB
    have eA : (pA l).1.err = 0 := Rec.num_err eB'
    have eA' : (Pack.St.num ⟨l, 0⟩ 1099511627776).1.err = 0 := eA
    have lV := Rec.text_left (s := (pB l).1) (most := 65536) d2'
    have lB := Rec.num_left (s := (pA l).1) (most := 2) eB'
    have lA := Rec.num_left (s := ⟨l, 0⟩) (most := 1099511627776) eA'
    have lV' : (pB l).1.left = Pack.num (pV l).2.length ++ (pV l).2 := by
      rw [lV]
      show Pack.num (pV l).2.length ++ ((pV l).2 ++ (pV l).1.left) = _
      rw [d1, List.append_nil]
    have lB' : (pA l).1.left = Pack.num (pB l).2 ++ (pB l).1.left := lB
    have lA' : l = Pack.num (pA l).2 ++ (pA l).1.left := lA
    unfold text
    rw [body_one rfl]
    simp only
    rw [vd_enc (decOk_of_right hv), ← lV', show ((1 : Int)).toNat = (pB l).2 from h1.symm, ← lB', show (((pA l).2 : Nat) : Int).toNat = (pA l).2 from rfl, ← lA']
  · rw [pread_two h1] at d1 d2 hr h2 ⊢
    simp only at d1 d2 h2
    have eP' : ((pM l).1.num 1099511627776).1.err = 0 := d2
    have eM' : ((pT l).1.num 64).1.err = 0 := Rec.num_err eP'
    have eT' : ((pB l).1.num 1073741824).1.err = 0 := Rec.num_err (s := (pT l).1) (most := 64) eM'
    have eB' : ((pA l).1.num 2).1.err = 0 := Rec.num_err (s := (pB l).1) (most := 1073741824) eT'
    have eA' : (Pack.St.num ⟨l, 0⟩ 1099511627776).1.err = 0 := Rec.num_err (s := (pA l).1) (most := 2) eB'
    have lP := Rec.num_left (s := (pM l).1) (most := 1099511627776) eP'
    have lM := Rec.num_left (s := (pT l).1) (most := 64) eM'
    have lT := Rec.num_left (s := (pB l).1) (most := 1073741824) eT'
    have lB := Rec.num_left (s := (pA l).1) (most := 2) eB'
    have lA := Rec.num_left (s := ⟨l, 0⟩) (most := 1099511627776) eA'
    have lP0 : (pM l).1.left = Pack.num (pP l).2 ++ (pP l).1.left := lP
    have lP' : (pM l).1.left = Pack.num (pP l).2 := lP0.trans (by rw [d1, List.append_nil])
    have lM' : (pT l).1.left = Pack.num (pM l).2 ++ (pM l).1.left := lM
    have lT' : (pB l).1.left = Pack.num (pT l).2 ++ (pT l).1.left := lT
    have lB' : (pA l).1.left = Pack.num (pB l).2 ++ (pB l).1.left := lB
    have lA' : l = Pack.num (pA l).2 ++ (pA l).1.left := lA
    unfold text
    rw [body_two (by show (2 : Int) ≠ 1; decide)]
    simp only
    rw [show (((pP l).2 : Nat) : Int).toNat = (pP l).2 from rfl, ← lP', show (((pM l).2 : Nat) : Int).toNat = (pM l).2 from rfl, ← lM', show (((pT l).2 : Nat) : Int).toNat = (pT l).2 from rfl, ← lT', show ((2 : Int)).toNat = (pB l).2 from h1.symm, ← lB', show (((pA l).2 : Nat) : Int).toNat = (pA l).2 from rfl, ← lA']
theorem cut_back {b l : List UInt8} (h : Crc.cutOf b = some l) : l ++ Crc.low (Crc.sum l) = b := by
  unfold Crc.cutOf at h
  split at h
  · cases h
  · split at h
    · rename_i hc
      injection h with h
      rw [← h]
      exact hc
    · cases h
theorem dec_pok {b l : List UInt8} (hc : Crc.cutOf b = some l) (h : pok l = true) : dec vd b = some (pread l).2 := by
  have hr : right (pread l).2 = true := by
    unfold pok at h
    rw [Bool.and_eq_true] at h
    exact h.2
  rw [dec_vd_iff]
  refine ⟨hr, ?_⟩
  unfold enc
  rw [text_pread h]
  exact cut_back hc
theorem dec_not {b l : List UInt8} (hc : Crc.cutOf b = some l) (h : pok l = false) : dec vd b = none := by
  cases hd : dec vd b with
  | none => rfl
  | some e =>
    exfalso
    obtain ⟨hr, he⟩ := dec_vd_iff.1 hd
    have : Crc.cutOf b = some (text e) := by rw [← he]; exact Crc.cut_put _
    rw [hc] at this
    injection this with this
    rw [this, pok_text hr] at h
    cases h
theorem dec_cut {b : List UInt8} (hc : Crc.cutOf b = none) : dec vd b = none := by
  unfold dec
  rw [hc]
/-- What Decode tells. -/
def noE : E := ⟨0, 0, [], 0, 0, 0⟩
def errOf : Option (List UInt8) → Option E → Int
  | none, _ => 51
  | some _, none => 50
  | some _, some _ => 0
def entOf : Option E → E
  | none => noE
  | some e => e
end Ent
end Go.Proofs.Ytboopfbflfimlaa
