/-
  Layer 8, the statements' helpers: a row of places beside a store; what is read behind a crash; how long the parts of a row are.
-/
import Derived.Test.YtpefengjpedifaaPgV
import Derived.Test.YtpefengjpedifaaRead
import Derived.Test.YtpefengjpedifaaPackRaw
import Derived.Test.YtpefengjpedifaaRows
namespace Go.Proofs.Ytpefengjpedifaa
set_option linter.unusedSimpArgs false
set_option linter.unusedVariables false
set_option maxRecDepth 100000
open Go.ChangeShapes Go.WideShapes Go.ChangeAt Go.RowKit

theorem rowOwn {w w' : World} {base n size : Nat} {e : TypeId} {v : Value} {xs : List Value} (h : w.ownsRow base e size v n xs) (hs : ∀ g, v.ownBlock = some g → w'.heap[g]? = w.heap[g]?) : w'.ownsRow base e size v n xs := by
  refine ⟨h.1, ?_⟩
  rcases h.2 with h0 | ⟨g, cap, cur, rfl, hb, hg, hr⟩
  · exact .inl h0
  · exact .inr ⟨g, cap, cur, rfl, hb, (hs g rfl).trans hg, hr⟩
theorem ownCells {w : World} {base n size : Nat} {e : TypeId} {v : Value} {xs : List Value} (h : w.ownsRow base e size v n xs) {g : Nat} (hg : v.ownBlock = some g) : ∃ cs, w.heap[g]? = some (.cells cs e (0, 0)) := by
  rcases h.2 with ⟨rfl, _⟩ | ⟨q, cap, cur, rfl, hb, hq, hr⟩
  · cases hg
  · injection hg with hg
    subst hg
    exact ⟨_, hq⟩
/-- A row of places of its own beside a store. -/
theorem at_appended {wr w3 : World} {B p k : Nat} {va vp va' vp' at' : Value} {S : Page.St} {x : List UInt8} {xs : List Value} (hA : Appended wr B p va vp S x w3 va' vp') (hs : IsSto wr B p va vp S) (hat : wr.ownsRow B 3 1 at' k xs) (hd : ∀ q, at'.ownBlock = some q → vp.ownBlock ≠ some q) :
    w3.ownsRow B 3 1 at' k xs ∧ ∀ q, at'.ownBlock = some q → vp'.ownBlock ≠ some q := by
  refine ⟨rowOwn hat fun g hg => ?_, fun q hq => ?_⟩
  · obtain ⟨cs, hc⟩ := ownCells hat hg
    refine hA.block g (hat.lt g hg).2 (fun e => ?_) (rowBeside hs.all hc (by decide)) (fun e => hd g hg e.symm)
    subst e
    rw [hs.heap] at hc
    injection hc with hc
    injection hc with _ e _
    exact absurd e (by decide)
  · intro e
    rcases hA.newP with hn | hn | hn
    · rw [hn] at e
      exact hd q hq e
    · rw [hn] at e
      exact hd q hq e
    · have := hn q e
      have := (hat.lt q hq).2
      omega
theorem sto_grown {w w' : World} {B p k : Nat} {va vp at' : Value} {S : Page.St} {xs : List Value} (hs : IsSto w B p va vp S) (hat : w.ownsRow B 3 1 at' k xs) (hd : ∀ q, at'.ownBlock = some q → vp.ownBlock ≠ some q) (hg : w.grownBy w' at'.ownBlock) : IsSto w' B p va vp S :=
  ⟨(hg.block p hs.lt (rowBeside hat hs.heap (by decide))).trans hs.heap, rowSame hs.all (fun g cs hc => hg.block g (Array.getElem?_eq_some_iff.1 hc).1 (rowBeside hat hc (by decide))), rowOwn hs.places (fun g h => hg.block g (hs.places.lt g h).2 (fun e => hd g e.symm h)), hs.ok⟩
theorem grown_beside {w : World} {B k n : Nat} {vp at' v' : Value} {xs ys : List Value} (hpl : w.ownsRow B 3 1 vp n ys) (hat : w.ownsRow B 3 1 at' k xs) (hd : ∀ q, at'.ownBlock = some q → vp.ownBlock ≠ some q) (h : v'.ownBlock = at'.ownBlock ∨ v'.ownBlock = some w.heap.size) : ∀ q, v'.ownBlock = some q → vp.ownBlock ≠ some q := by
  intro q hq e
  rcases h with h | h
  · exact hd q (h.symm.trans hq) e
  · have := (hpl.lt q e).2
    have := h.symm.trans hq
    injection this
    omega
namespace Page
theorem appended_take {ls : List (List UInt8)} {k : Nat} (hk : k < ls.length) (hr : room ⟨ls.take k, 0, false⟩ ls[k] = true) : (⟨ls.take k, 0, false⟩ : St).append ls[k] = ⟨ls.take (k + 1), 0, false⟩ ∧ (⟨ls.take k, 0, false⟩ : St).appendErr ls[k] = 0 ∧ (⟨ls.take k, 0, false⟩ : St).appendAt ls[k] = (bytes (ls.take k)).length := by
  refine ⟨?_, ?_, ?_⟩
  · unfold St.append
    rw [if_neg (by simp), if_pos hr, List.take_succ_eq_append_getElem hk]
  · unfold St.appendErr
    rw [if_neg (by simp), if_pos hr]
  · unfold St.appendAt
    rw [if_neg (by simp), if_pos hr]
theorem refused {S : St} {x : List UInt8} (ho : S.off = false) (hr : room S x = false) : S.appendErr x = 80 ∧ S.appendAt x = 0 ∧ S.append x = S := by
  refine ⟨?_, ?_, ?_⟩
  · unfold St.appendErr
    rw [if_neg (by rw [ho]; simp), if_neg (by rw [hr]; simp)]
  · unfold St.appendAt
    rw [if_neg (by rw [ho]; simp), if_neg (by rw [hr]; simp)]
  · unfold St.append
    rw [if_neg (by rw [ho]; simp), if_neg (by rw [hr]; simp)]
theorem offs_take {ls : List (List UInt8)} {k : Nat} (hk : k < ls.length) : offs (ls.take (k + 1)) = offs (ls.take k) ++ [((bytes (ls.take k)).length : Int)] := by
  rw [List.take_succ_eq_append_getElem hk, offs_snoc]
theorem reads_in {ls : List (List UInt8)} {K i : Nat} (hK : K ≤ ls.length) (hi : i < K) : readAt (ls.take K) (((bytes (ls.take i)).length : Nat) : Int) = some ls[i] := by
  rw [readAt_some (ls.take K) i (by simp; omega) _ (by rw [List.take_take, Nat.min_eq_left (by omega)])]
  simp
theorem reads_out {ls : List (List UInt8)} {K i : Nat} (hi : i < ls.length) (hK : K ≤ i) : readAt (ls.take K) (((bytes (ls.take i)).length : Nat) : Int) = none := by
  refine readAt_none _ _ fun j hj => ?_
  simp at hj
  rw [List.take_take, Nat.min_eq_left (by omega)]
  have := bytes_take_lt ls (i := j) (j := i) (by omega) (by omega)
  omega
theorem out_le {ls : List (List UInt8)} {K i : Nat} (hi : i < ls.length) (hK : K ≤ i) : (bytes (ls.take K)).length ≤ (bytes (ls.take i)).length := by
  rcases Nat.lt_or_ge K i with h | h
  · have := bytes_take_lt ls h (by omega)
    omega
  · obtain rfl : K = i := by omega
    exact Nat.le_refl _
end Page
/-- How long the parts of a row are. -/
theorem rows_long {H : Type} {enc : TypeId × Value → H} {P : Program} {w : World} {base : Nat} {spare : Nat → Bool} {held : Bool} {ts : List TypeId} {ds : List (DataW H)} {j : Nat} {t e u : TypeId} {fuel : Nat} {a : Option Addr} {n c : Nat} {x : DataW H × List MemPlace} {l : List (List UInt8)} (hsz : (DataW.weightsEach P ts ds).all (· ≤ reachBytes) = true) (hj : ts[j]? = some t) (hd : ds[j]? = some x.1)
    (ht : P.underlying t = some (.slice e)) (hc : P.cellsOf e = 1) (he : P.underlying e = some (.slice u)) (hu : P.bytesOf u = 1) (h : DataW.trod enc P w base spare held fuel t [.slice a n c] = some x) (hr : Rows w (.slice a n c) l) : ∀ y ∈ l, y.length ≤ 140737488351232 := by
  have hall : ∀ m ∈ x.1.weights P t, m ≤ 140737488351232 := fun m hm => of_decide_eq_true (List.all_eq_true.1 hsz _ (DataW.weights_mem_each hj hd m hm))
  intro y hy
  obtain ⟨i, hi, rfl⟩ := List.mem_iff_getElem.1 hy
  obtain ⟨a', cap', e', _, _, hrows⟩ := hr.open
  obtain ⟨b, off, z, hab, hcell, hz⟩ := hrows i hi
  injection e' with e1 e2 e3
  subst e1
  subst hab
  rcases DataW.trod_slice ht h with ⟨e0, _⟩ | ⟨a2, len, cap, elems, rest, n', _, e0, rfl, _, _, _, hlen, hel, _, _⟩
  · injection e0 with e0 _
    injection e0 with e0 _
    cases e0
  · injection e0 with e0 _
    injection e0 with e0 e4 e5
    injection e0 with e0
    subst e0
    subst e4
    have h1 := hel i (by omega)
    rw [hc, Nat.mul_one, List.getElem?_eq_getElem (by omega), Option.bind_eq_some_iff] at h1
    obtain ⟨cs, hds, hy2⟩ := h1
    have hlen1 := (World.cells?_some hds).2.1
    obtain ⟨z', rfl⟩ : ∃ z', cs = [z'] := by
      match cs, hlen1 with
      | [z'], _ => exact ⟨z', rfl⟩
    have hz' := cell_of_cells?_one hds
    rw [Addr.add_lit, hcell] at hz'
    injection hz' with hz'
    subst hz'
    obtain ⟨az, nz, cz, rfl⟩ := hz.isSlice
    obtain ⟨hzn, _, _⟩ := hz.len
    rcases len_of_raw he hy2 with h0 | ⟨es, sp, e6, e7⟩
    · omega
    · have hm : (es.length + sp.length) * P.bytesOf u ∈ DataW.weightsAll P e (elems.map (·.1)) := by
        have hw : (es.length + sp.length) * P.bytesOf u ∈ (elems[i]'(by omega)).1.weights P e := by
          rw [e6]
          simp [DataW.weights, he]
        have key : ∀ (q : List (DataW H × List MemPlace)) (k : Nat) (hk : k < q.length) (m : Nat), m ∈ q[k].1.weights P e → m ∈ DataW.weightsAll P e (q.map (·.1)) := by
          intro q
          induction q with
          | nil => intro k hk; exact absurd hk (by simp)
          | cons d q ih =>
            intro k hk m hm
            simp only [List.map_cons, DataW.weightsAll, List.mem_append]
            cases k with
            | zero => exact .inl hm
            | succ k => exact .inr (ih k (by simpa using hk) m (by simpa using hm))
        exact key elems i (by omega) _ hw
      have := hall _ (by simp [DataW.weights, ht]; exact .inr (.inl (by simpa using hm)))
      rw [hu] at this
      omega
end Go.Proofs.Ytpefengjpedifaa
