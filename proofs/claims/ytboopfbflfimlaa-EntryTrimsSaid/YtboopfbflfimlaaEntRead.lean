/-
  Layer 5, mathematics: bytes as an entry; no program. How a vector is read is left open (vd): that it is read back is all that is wanted.
-/
import Derived.Test.YtboopfbflfimlaaEntMath
namespace Go.Proofs.Ytboopfbflfimlaa.Ent

def big : Int := 4611686018427387904
def stA (l : List UInt8) : Pack.St × Nat := Pack.St.num ⟨l, 0⟩ big
def stB (l : List UInt8) : Pack.St × Nat := (stA l).1.num big
def stV (l : List UInt8) : Pack.St × List UInt8 := (stB l).1.text 65536
def stT (l : List UInt8) : Pack.St × Nat := (stB l).1.num big
def stM (l : List UInt8) : Pack.St × Nat := (stT l).1.num big
def stP (l : List UInt8) : Pack.St × Nat := (stM l).1.num big
def read (vd : List UInt8 → List Int) (l : List UInt8) : E := if (stB l).2 = 1 then ⟨(stA l).2, 1, vd (stV l).2, 0, 0, 0⟩ else ⟨(stA l).2, (stB l).2, [], (stT l).2, (stM l).2, (stP l).2⟩
theorem read_text {vd : List UInt8 → List Int} (hv : ∀ v, Vec.right v = true → vd (vecBytes v) = v) {e : E} (h : right e = true) : read vd (text e) = e := by
  obtain ⟨h1, h2⟩ := right_ok h
  have hb : (0 : Int) ≤ big ∧ big = 4611686018427387904 := ⟨by decide, rfl⟩
  have hk : 0 ≤ e.kind ∧ e.kind ≤ 2 := by rcases h2 with ⟨k, _⟩ | ⟨k, _⟩ <;> omega
  have hA : stA (text e) = (⟨Pack.num e.kind.toNat ++ body e, 0⟩, e.number.toNat) := Pack.read_num _ _ _ _ (by omega) (by omega)
  have hB : stB (text e) = (⟨body e, 0⟩, e.kind.toNat) := by
    unfold stB; rw [hA]; exact Pack.read_num _ _ _ _ (by omega) (by omega)
  rcases h2 with ⟨k, v, t1, t2, t3⟩ | ⟨k, v, t1, t2, t3⟩
  · have hl := vecBytes_le v
    have hV : stV (text e) = (⟨[], 0⟩, vecBytes e.cut) := by
      unfold stV; rw [hB, body_one k]
      unfold Pack.St.text
      rw [Pack.read_num _ _ _ _ (by omega) (by omega)]
      simp
    unfold read
    rw [hB, if_pos (show e.kind.toNat = 1 by omega), hA, hV, hv _ v]
    exact same (by simp only []; omega) k.symm rfl t1.symm t2.symm t3.symm
  · have hT : stT (text e) = (⟨Pack.num e.term.toNat ++ Pack.num e.pos.toNat, 0⟩, e.tag.toNat) := by
      unfold stT; rw [hB, body_two (by omega)]; exact Pack.read_num _ _ _ _ (by omega) (by omega)
    have hM : stM (text e) = (⟨Pack.num e.pos.toNat, 0⟩, e.term.toNat) := by
      unfold stM; rw [hT]; exact Pack.read_num _ _ _ _ (by omega) (by omega)
    have hP : stP (text e) = (⟨[], 0⟩, e.pos.toNat) := by
      unfold stP; rw [hM]
      have := Pack.read_num e.pos.toNat [] 0 big (by omega) (by omega)
      rw [List.append_nil] at this
      exact this
    unfold read
    rw [hB, if_neg (show ¬ e.kind.toNat = 1 by omega), hA, hT, hM, hP]
    exact same (by simp only []; omega) (by simp only []; omega) v.symm (by simp only []; omega) (by simp only []; omega) (by simp only []; omega)
/-- What is read must be what is written. -/
def dec (vd : List UInt8 → List Int) (b : List UInt8) : Option E := match Crc.cutOf b with
  | none => none
  | some l => if right (read vd l) && (enc (read vd l) == b) then some (read vd l) else none
theorem dec_enc {vd : List UInt8 → List Int} (hv : ∀ v, Vec.right v = true → vd (vecBytes v) = v) {e : E} (h : right e = true) : dec vd (enc e) = some e := by
  unfold dec
  rw [show Crc.cutOf (enc e) = some (text e) from Crc.cut_put _]
  simp only [read_text hv h, h, beq_self_eq_true, Bool.and_self, if_true]
theorem enc_dec {vd : List UInt8 → List Int} {b : List UInt8} {e : E} (h : dec vd b = some e) : right e = true ∧ enc e = b := by
  unfold dec at h
  split at h
  · cases h
  · split at h
    · rename_i hok
      injection h with h
      rw [Bool.and_eq_true, beq_iff_eq] at hok
      subst h
      exact hok
    · cases h
/-- Bytes are an entry just if they are its bytes: however a vector is read. -/
theorem dec_iff {vd : List UInt8 → List Int} (hv : ∀ v, Vec.right v = true → vd (vecBytes v) = v) {b : List UInt8} {e : E} : dec vd b = some e ↔ right e = true ∧ enc e = b :=
  ⟨enc_dec, fun h => by rw [← h.2]; exact dec_enc hv h.1⟩
end Go.Proofs.Ytboopfbflfimlaa.Ent
