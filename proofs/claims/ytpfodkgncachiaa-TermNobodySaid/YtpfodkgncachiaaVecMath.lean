/-
  Layer 3, mathematics: vectors; no program.
-/
import Derived.Test.YtpfodkgncachiaaPackMath
namespace Go.Proofs.Ytpfodkgncachiaa.Vec

def okOne (x : Int) : Bool := decide (0 ≤ x ∧ x ≤ 1099511627776)
/-- Is a row of numbers a vector? -/
def right (v : List Int) : Bool := v.all okOne && decide (1 ≤ v.length ∧ v.length ≤ 8)
def kind (a b : List Int) : Bool := right a && right b && decide (a.length = b.length)
def big (x y : Int) : Int := if x < y then y else x
def small (x y : Int) : Int := if x < y then x else y
def max (a b : List Int) : List Int := List.zipWith big a b
def min (a b : List Int) : List Int := List.zipWith small a b
/-- Is no number of a below that of b? -/
def ge : List Int → List Int → Bool
  | x :: a, y :: b => decide (y ≤ x) && ge a b
  | _, _ => true
def covers (a b : List Int) : Bool := kind a b && ge a b
def same (a b : List Int) : Bool := covers a b && covers b a
def total (v : List Int) : Int := if right v then v.sum else 0
def gain (a b : List Int) : List Int := List.zipWith (fun x y => x - y) a b
def set (v : List Int) (k : Nat) (n : Int) : List Int := v.set k (big (v.getD k 0) n)

theorem right_ok {v : List Int} (h : right v = true) : (∀ x ∈ v, 0 ≤ x ∧ x ≤ 1099511627776) ∧ 1 ≤ v.length ∧ v.length ≤ 8 := by
  unfold right okOne at h
  simp only [Bool.and_eq_true, List.all_eq_true, decide_eq_true_eq] at h
  exact h
theorem right_of {v : List Int} (h : ∀ x ∈ v, 0 ≤ x ∧ x ≤ 1099511627776) (h1 : 1 ≤ v.length) (h8 : v.length ≤ 8) : right v = true := by
  unfold right okOne
  simp only [Bool.and_eq_true, List.all_eq_true, decide_eq_true_eq]
  exact ⟨h, h1, h8⟩
theorem kind_ok {a b : List Int} (h : kind a b = true) : right a = true ∧ right b = true ∧ a.length = b.length := by
  unfold kind at h
  simp only [Bool.and_eq_true, decide_eq_true_eq] at h
  exact ⟨h.1.1, h.1.2, h.2⟩
theorem kind_of {a b : List Int} (h1 : right a = true) (h2 : right b = true) (h3 : a.length = b.length) : kind a b = true := by
  unfold kind; rw [h1, h2, decide_eq_true h3]; rfl
theorem kind_comm (a b : List Int) : kind a b = kind b a := by
  unfold kind
  rw [Bool.and_comm (right a)]
  congr 1
  rw [Bool.eq_iff_iff]; simp; exact eq_comm
theorem ge_iff : ∀ (a b : List Int), a.length = b.length → (ge a b = true ↔ ∀ i (h : i < a.length) (h' : i < b.length), b[i] ≤ a[i]) := by
  intro a
  induction a with
  | nil => intro b h; simp [ge]
  | cons x a ih =>
    intro b h
    cases b with
    | nil => simp at h
    | cons y b =>
      simp only [List.length_cons, Nat.add_right_cancel_iff] at h
      simp only [ge, Bool.and_eq_true, decide_eq_true_eq, ih b h]
      constructor
      · rintro ⟨h1, h2⟩ i hi hi'
        cases i with
        | zero => exact h1
        | succ i => exact h2 i (by simpa using hi) (by simpa using hi')
      · intro h1
        refine ⟨h1 0 (by simp) (by simp), fun i hi hi' => ?_⟩
        have := h1 (i + 1) (by simpa using hi) (by simpa using hi')
        simpa using this
theorem zip_length (f : Int → Int → Int) {a b : List Int} (h : a.length = b.length) : (List.zipWith f a b).length = a.length := by simp; omega
theorem zip_right (f : Int → Int → Int) {a b : List Int} (h : kind a b = true) (hf : ∀ x y, (0 ≤ x ∧ x ≤ 1099511627776) → (0 ≤ y ∧ y ≤ 1099511627776) → 0 ≤ f x y ∧ f x y ≤ 1099511627776) : right (List.zipWith f a b) = true := by
  obtain ⟨ha, hb, hl⟩ := kind_ok h
  obtain ⟨a1, a2, a3⟩ := right_ok ha
  obtain ⟨b1, _, _⟩ := right_ok hb
  refine right_of (fun x hx => ?_) (by rw [zip_length f hl]; exact a2) (by rw [zip_length f hl]; exact a3)
  obtain ⟨i, hi, rfl⟩ := List.getElem_of_mem hx
  rw [List.getElem_zipWith]
  exact hf _ _ (a1 _ (List.getElem_mem _)) (b1 _ (List.getElem_mem _))
theorem big_in (x y : Int) (hx : 0 ≤ x ∧ x ≤ 1099511627776) (hy : 0 ≤ y ∧ y ≤ 1099511627776) : 0 ≤ big x y ∧ big x y ≤ 1099511627776 := by unfold big; split <;> assumption
theorem small_in (x y : Int) (hx : 0 ≤ x ∧ x ≤ 1099511627776) (hy : 0 ≤ y ∧ y ≤ 1099511627776) : 0 ≤ small x y ∧ small x y ≤ 1099511627776 := by unfold small; split <;> assumption
theorem max_right {a b : List Int} (h : kind a b = true) : right (max a b) = true := zip_right big h big_in
theorem min_right {a b : List Int} (h : kind a b = true) : right (min a b) = true := zip_right small h small_in
theorem max_length {a b : List Int} (h : kind a b = true) : (max a b).length = a.length := zip_length big (kind_ok h).2.2
theorem min_length {a b : List Int} (h : kind a b = true) : (min a b).length = a.length := zip_length small (kind_ok h).2.2
theorem covers_iff {a b : List Int} (h : kind a b = true) : covers a b = true ↔ ∀ i (h : i < a.length) (h' : i < b.length), b[i] ≤ a[i] := by
  unfold covers
  rw [h, Bool.true_and, ge_iff a b (kind_ok h).2.2]
theorem max_covers {a b : List Int} (h : kind a b = true) : covers (max a b) a = true ∧ covers (max a b) b = true := by
  obtain ⟨ha, hb, hl⟩ := kind_ok h
  have hlen := max_length h
  constructor
  · rw [covers_iff (kind_of (max_right h) ha hlen)]
    intro i hi hi'
    simp only [max, List.getElem_zipWith, big]
    split <;> omega
  · rw [covers_iff (kind_of (max_right h) hb (by omega))]
    intro i hi hi'
    simp only [max, List.getElem_zipWith, big]
    split <;> omega
theorem min_covered {a b : List Int} (h : kind a b = true) : covers a (min a b) = true ∧ covers b (min a b) = true := by
  obtain ⟨ha, hb, hl⟩ := kind_ok h
  have hlen := min_length h
  constructor
  · rw [covers_iff (kind_of ha (min_right h) (by omega))]
    intro i hi hi'
    simp only [min, List.getElem_zipWith, small]
    split <;> omega
  · rw [covers_iff (kind_of hb (min_right h) (by omega))]
    intro i hi hi'
    simp only [min, List.getElem_zipWith, small]
    split <;> omega
theorem covers_kind {a b : List Int} (h : covers a b = true) : kind a b = true := by
  unfold covers at h
  simp only [Bool.and_eq_true] at h
  exact h.1
theorem covers_max {a b c : List Int} (h1 : covers c a = true) (h2 : covers c b = true) (h : kind a b = true) : covers c (max a b) = true := by
  have k1 := covers_kind h1
  have k2 := covers_kind h2
  have hl := max_length h
  rw [covers_iff k1] at h1
  rw [covers_iff k2] at h2
  obtain ⟨c1, _, c2⟩ := kind_ok k1
  have hab := (kind_ok h).2.2
  rw [covers_iff (kind_of c1 (max_right h) (by omega))]
  intro i hi hi'
  simp only [max, List.getElem_zipWith, big]
  split
  · exact h2 i hi (by omega)
  · exact h1 i hi (by omega)
theorem min_covers {a b c : List Int} (h1 : covers a c = true) (h2 : covers b c = true) (h : kind a b = true) : covers (min a b) c = true := by
  have k1 := covers_kind h1
  have k2 := covers_kind h2
  have hl := min_length h
  rw [covers_iff k1] at h1
  rw [covers_iff k2] at h2
  obtain ⟨_, c1, c2⟩ := kind_ok k1
  have hab := (kind_ok h).2.2
  rw [covers_iff (kind_of (min_right h) c1 (by omega))]
  intro i hi hi'
  simp only [min, List.getElem_zipWith, small]
  split
  · exact h1 i (by omega) hi'
  · exact h2 i (by omega) hi'
theorem sums : ∀ (a b : List Int), a.length = b.length → (max a b).sum + (min a b).sum = a.sum + b.sum := by
  intro a
  induction a with
  | nil => intro b h; cases b with
    | nil => rfl
    | cons => simp at h
  | cons x a ih =>
    intro b h
    cases b with
    | nil => simp at h
    | cons y b =>
      have := ih b (by simpa using h)
      simp only [max, min] at this ⊢
      simp only [List.zipWith_cons_cons, List.sum_cons, big, small]
      split <;> omega
theorem total_sums {a b : List Int} (h : kind a b = true) : total (max a b) + total (min a b) = total a + total b := by
  unfold total
  rw [if_pos (max_right h), if_pos (min_right h), if_pos (kind_ok h).1, if_pos (kind_ok h).2.1]
  exact sums a b (kind_ok h).2.2
theorem gain_sum : ∀ (a b : List Int), a.length = b.length → (gain a b).sum = a.sum - b.sum := by
  intro a
  induction a with
  | nil => intro b h; cases b with
    | nil => rfl
    | cons => simp at h
  | cons x a ih =>
    intro b h
    cases b with
    | nil => simp at h
    | cons y b =>
      have := ih b (by simpa using h)
      simp only [gain] at this ⊢
      simp only [List.zipWith_cons_cons, List.sum_cons]
      omega
theorem gain_right {a b : List Int} (h : covers a b = true) : right (gain a b) = true ∧ (gain a b).length = a.length := by
  have hk := covers_kind h
  obtain ⟨ha, hb, hl⟩ := kind_ok hk
  obtain ⟨a1, a2, a3⟩ := right_ok ha
  obtain ⟨b1, _, _⟩ := right_ok hb
  have hlen : (gain a b).length = a.length := zip_length _ hl
  rw [covers_iff hk] at h
  refine ⟨right_of (fun x hx => ?_) (by omega) (by omega), hlen⟩
  obtain ⟨i, hi, rfl⟩ := List.getElem_of_mem hx
  rw [hlen] at hi
  simp only [gain, List.getElem_zipWith]
  have h1 := h i hi (by omega)
  have h2 := a1 _ (List.getElem_mem hi)
  have h3 := b1 _ (List.getElem_mem (by omega : i < b.length))
  omega
theorem total_gain {a b : List Int} (h : covers a b = true) : total (gain a b) = total a - total b := by
  have hk := kind_ok (covers_kind h)
  unfold total
  rw [if_pos (gain_right h).1, if_pos hk.1, if_pos hk.2.1]
  exact gain_sum a b hk.2.2
theorem sum_bound : ∀ (v : List Int), (∀ x ∈ v, 0 ≤ x ∧ x ≤ 1099511627776) → 0 ≤ v.sum ∧ v.sum ≤ 1099511627776 * v.length := by
  intro v
  induction v with
  | nil => intro _; simp
  | cons x v ih =>
    intro h
    have h1 := h x (by simp)
    have h2 := ih (fun y hy => h y (by simp [hy]))
    simp only [List.sum_cons, List.length_cons]
    omega
theorem total_bound (v : List Int) : 0 ≤ total v ∧ total v ≤ 8796093022208 := by
  unfold total
  split
  · rename_i h
    obtain ⟨h1, _, h3⟩ := right_ok h
    have := sum_bound v h1
    omega
  · omega
theorem big_assoc (x y z : Int) : big (big x y) z = big x (big y z) := by unfold big; split <;> split <;> (try split) <;> (try split) <;> omega
theorem small_comm (x y : Int) : small x y = small y x := by unfold small; split <;> split <;> omega
theorem max_assoc : ∀ (a b c : List Int), max (max a b) c = max a (max b c) := by
  intro a
  induction a with
  | nil => intro b c; simp [max]
  | cons x a ih =>
    intro b c
    cases b with
    | nil => simp [max]
    | cons y b =>
      cases c with
      | nil => simp [max]
      | cons z c =>
        have := ih b c
        simp only [max, List.zipWith_cons_cons] at this ⊢
        rw [this, big_assoc]
theorem min_comm : ∀ (a b : List Int), min a b = min b a := by
  intro a
  induction a with
  | nil => intro b; simp [min]
  | cons x a ih =>
    intro b
    cases b with
    | nil => simp [min]
    | cons y b =>
      have := ih b
      simp only [min, List.zipWith_cons_cons] at this ⊢
      rw [this, small_comm]
theorem covers_self {a : List Int} (h : right a = true) : covers a a = true := by
  rw [covers_iff (kind_of h h rfl)]
  intro i _ _
  exact Int.le_refl _
theorem same_self {a : List Int} (h : right a = true) : same a a = true := by unfold same; rw [covers_self h]; rfl
/-- Two vectors that cover one another are one. -/
theorem same_eq {a b : List Int} (h : same a b = true) : a = b := by
  unfold same at h
  simp only [Bool.and_eq_true] at h
  have hk := covers_kind h.1
  have h1 := (covers_iff hk).1 h.1
  have h2 := (covers_iff (covers_kind h.2)).1 h.2
  refine List.ext_getElem (kind_ok hk).2.2 fun i hi hi' => ?_
  have := h1 i hi hi'
  have := h2 i hi' hi
  omega

/-! What so many have. -/
def many (xs : List Int) (n : Int) : Nat := xs.countP (fun x => decide (n ≤ x))
/-- The greatest number that so many have not below. -/
def quorumStep (xs : List Int) (need : Int) (best x : Int) : Int := if best < x ∧ need ≤ (many xs x : Int) then x else best
def quorumNum (xs : List Int) (need : Int) : Int := xs.foldl (quorumStep xs need) 0
/-- It is told by what it is. -/
def IsQuorum (xs : List Int) (need : Int) (q : Int) : Prop := 0 ≤ q ∧ need ≤ (many xs q : Int) ∧ ∀ n, q < n → (many xs n : Int) < need
theorem many_mono (xs : List Int) {n m : Int} (h : n ≤ m) : many xs m ≤ many xs n := by
  unfold many
  refine List.countP_mono_left fun x _ hx => ?_
  simp only [decide_eq_true_eq] at hx ⊢
  omega
theorem many_zero {xs : List Int} (h : ∀ x ∈ xs, 0 ≤ x) : many xs 0 = xs.length := by
  unfold many
  rw [List.countP_eq_length]
  intro x hx
  simpa using h x hx
theorem quorum_unique {xs : List Int} {need p q : Int} (hp : IsQuorum xs need p) (hq : IsQuorum xs need q) : p = q := by
  rcases Int.lt_trichotomy p q with h | h | h
  · have := hp.2.2 q h; have := hq.2.1; omega
  · exact h
  · have := hq.2.2 p h; have := hp.2.1; omega
/-- Where a number greater than q is had by so many, one of the row's own is. -/
theorem many_member {xs : List Int} {need n : Int} (h1 : 1 ≤ need) (h : need ≤ (many xs n : Int)) : ∃ x ∈ xs, n ≤ x ∧ need ≤ (many xs x : Int) := by
  have hne : (xs.filter (fun x => decide (n ≤ x))) ≠ [] := by
    intro he
    have : many xs n = 0 := by unfold many; rw [List.countP_eq_length_filter, he]; rfl
    omega
  have key : ∀ l : List Int, l ≠ [] → ∃ y ∈ l, ∀ z ∈ l, y ≤ z := by
    intro l
    induction l with
    | nil => intro h; exact absurd rfl h
    | cons a l ih =>
      intro _
      by_cases hl : l = []
      · subst hl; exact ⟨a, by simp, by simp⟩
      · obtain ⟨y, hy, hmin⟩ := ih hl
        by_cases hay : a ≤ y
        · exact ⟨a, by simp, fun z hz => by
            rcases List.mem_cons.1 hz with rfl | hz
            · exact Int.le_refl _
            · exact Int.le_trans hay (hmin z hz)⟩
        · exact ⟨y, by simp [hy], fun z hz => by
            rcases List.mem_cons.1 hz with rfl | hz
            · omega
            · exact hmin z hz⟩
  obtain ⟨y, hy, hmin⟩ := key _ hne
  rw [List.mem_filter] at hy
  refine ⟨y, hy.1, by simpa using hy.2, ?_⟩
  have : many xs n ≤ many xs y := by
    unfold many
    refine List.countP_mono_left fun x hx hnx => ?_
    simp only [decide_eq_true_eq] at hnx ⊢
    exact hmin x (by rw [List.mem_filter]; exact ⟨hx, by simpa using hnx⟩)
  omega
theorem quorum_is {xs : List Int} {need : Int} (h0 : ∀ x ∈ xs, 0 ≤ x) (h1 : 1 ≤ need) (hn : need ≤ (xs.length : Int)) : IsQuorum xs need (quorumNum xs need) := by
  have key : ∀ (l : List Int) (b : Int), 0 ≤ b → need ≤ (many xs b : Int) → (0 ≤ l.foldl (quorumStep xs need) b ∧ need ≤ (many xs (l.foldl (quorumStep xs need) b) : Int) ∧ b ≤ l.foldl (quorumStep xs need) b ∧ ∀ x ∈ l, need ≤ (many xs x : Int) → x ≤ l.foldl (quorumStep xs need) b) := by
    intro l
    induction l with
    | nil => intro b hb hm; exact ⟨hb, hm, Int.le_refl _, fun x hx => by cases hx⟩
    | cons x l ih =>
      intro b hb hm
      simp only [List.foldl_cons]
      have hs : b ≤ quorumStep xs need b x ∧ need ≤ (many xs (quorumStep xs need b x) : Int) ∧ (need ≤ (many xs x : Int) → x ≤ quorumStep xs need b x) := by
        unfold quorumStep
        split
        · rename_i h; exact ⟨by omega, h.2, fun _ => Int.le_refl _⟩
        · rename_i h
          refine ⟨Int.le_refl _, hm, fun hx => ?_⟩
          rcases Int.lt_or_le b x with h' | h'
          · exact absurd ⟨h', hx⟩ h
          · exact h'
      obtain ⟨r1, r2, r3, r4⟩ := ih (quorumStep xs need b x) (by omega) hs.2.1
      refine ⟨r1, r2, by omega, fun y hy hm' => ?_⟩
      rcases List.mem_cons.1 hy with rfl | hy
      · have := hs.2.2 hm'; omega
      · exact r4 y hy hm'
  have hz := many_zero h0
  obtain ⟨r1, r2, _, r4⟩ := key xs 0 (Int.le_refl _) (by omega)
  refine ⟨r1, r2, fun n hq => ?_⟩
  rcases Int.lt_or_le (many xs n : Int) need with h | h
  · exact h
  · obtain ⟨x, hx, hnx, hmx⟩ := many_member h1 h
    have := r4 x hx hmx
    unfold quorumNum at hq
    omega
/-- The more must have it, the less it is. -/
theorem quorum_less {xs : List Int} {n m p q : Int} (hnm : n ≤ m) (hp : IsQuorum xs n p) (hq : IsQuorum xs m q) : q ≤ p := by
  rcases Int.lt_or_le p q with h | h
  · have := hp.2.2 q h; have := hq.2.1; omega
  · exact h
theorem quorum_one {xs : List Int} {q : Int} (hq : IsQuorum xs 1 q) : ∀ x ∈ xs, x ≤ q := by
  intro x hx
  rcases Int.lt_or_le q x with h | h
  · have h1 := hq.2.2 x h
    have : 0 < many xs x := by
      unfold many
      rw [List.countP_pos_iff]
      exact ⟨x, hx, by simp⟩
    omega
  · exact h
theorem quorum_all {xs : List Int} {q : Int} (hq : IsQuorum xs (xs.length : Int) q) : ∀ x ∈ xs, q ≤ x := by
  have h := hq.2.1
  have h2 : many xs q = xs.length := by
    have : many xs q ≤ xs.length := List.countP_le_length
    omega
  unfold many at h2
  rw [List.countP_eq_length] at h2
  intro x hx
  simpa using h2 x hx
end Go.Proofs.Ytpfodkgncachiaa.Vec
