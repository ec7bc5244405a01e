/-
  Layer 3, the program: a vector as bytes.
-/
import Derived.Test.YtboopfbflfimlaaVecB
import Derived.Test.YtboopfbflfimlaaPackAlive
namespace Go.Proofs.Ytboopfbflfimlaa
open Go.RowKit

/-- A vector's bytes. -/
def Vec.enc (v : List Int) : List UInt8 := Pack.num v.length ++ nums v
def bytesOr : Bool → List UInt8 → List UInt8
  | true, l => l
  | false, _ => []
@[simp] theorem bytesOr_true (l : List UInt8) : bytesOr true l = l := rfl
@[simp] theorem bytesOr_false (l : List UInt8) : bytesOr false l = [] := rfl
def formErr : Bool → Int
  | true => 0
  | false => 30
@[simp] theorem formErr_true : formErr true = 0 := rfl
@[simp] theorem formErr_false : formErr false = 30 := rfl
def GivesEnc (w : World) (l : List UInt8) (err : Int) (e : Ending) (w' : World) : Prop := ∃ u, e = .returned (.tuple #[u, .int .i64 err]) ∧ Bytes w' u l ∧ Ext w w'
theorem right_okNum {v : List Int} (h : Vec.right v = true) : v.all okNum = true := by
  rw [List.all_eq_true]
  intro x hx
  have := (Vec.right_ok h).1 x hx
  unfold okNum
  rw [decide_eq_true_eq]
  omega

set_option maxRecDepth 100000 in
set_option maxHeartbeats 2000000 in
theorem encode_any (v : Value) (ns : List Int) (w : World) (hv : Ints w v ns) :
    Calls Try.prog 29 #[v] w (GivesEnc w (bytesOr (Vec.right ns) (Vec.enc ns)) (formErr (Vec.right ns))) := by
  have HV := Lib.hid hv
  obtain ⟨a, cap, rfl, hcap, hmax, _, _⟩ := hv.open
  unfold maxLen at hmax
  clear hv
  cases hr : Vec.right ns with
  | false =>
    have HR := Lib.hid hr
    clear hr
    go_enter Try.func29, Try.ntmps29
    go_wp2_with fail
    refine (right_any _ ns _ HV.out).mono ?_
    rintro e w1 ⟨rfl, rfl⟩
    rw [HR.out]
    go_wp2_with fail
    go_ret2
    exact ⟨_, rfl, bytes_none _, Ext.refl _⟩
  | true =>
    have HR := Lib.hid hr
    have hlen := (Vec.right_ok hr).2
    have HO := Lib.hid (right_okNum hr)
    have h1 : [(ns.length : Int)].all okNum = true := by
      rw [all_one]
      unfold okNum
      rw [decide_eq_true_eq]
      omega
    have hn1 := packNum_any (.slice none 0 0) _ [] [(ns.length : Int)] _ (bytes_none _) (Ints.one w ns.length) (by simp) (by simp)
    rw [h1, nums_one] at hn1
    simp only [if_true, List.nil_append] at hn1
    have h9 := Pack.num_nine (n := ns.length) (by omega)
    have HN1 := Lib.hid hn1
    clear hr hn1 h1
    go_enter Try.func29, Try.ntmps29
    go_wp2_with fail
    refine (right_any _ ns _ HV.out).mono ?_
    rintro e w1 ⟨rfl, rfl⟩
    rw [HR.out]
    go_wp2_with fail
    refine HN1.out.mono ?_
    rintro e w1 ⟨v1, rfl, ho1, hb1⟩
    have hE1 : Ext w w1 := (Ext.alloc _ _).trans hb1
    have hn2 := packNum_any v1 _ _ ns w1 ho1.bytes (HV.out.below hE1) (by omega) (by omega)
    rw [HO.out] at hn2
    simp only [if_true] at hn2
    have HN2 := Lib.hid hn2
    clear hn2
    go_wp2_with fail
    refine HN2.out.mono ?_
    rintro e w2 ⟨v2, rfl, ho2, hb2⟩
    go_wp2_with fail
    go_ret2
    exact ⟨_, rfl, ho2.bytes, hE1.trans hb2⟩
end Go.Proofs.Ytboopfbflfimlaa
