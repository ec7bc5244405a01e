/-
  What layers above the vectors share: loads in a drawn region, rows of the call's own beside blocks, strings as bytes. No function of the program.
-/
import Derived.Test.YtpefengjpedifaaPackRefRead
import Derived.Test.YtpefengjpedifaaPackAlive
import Derived.Lib.ConvBytes
namespace Go.Proofs.Ytpefengjpedifaa
set_option linter.unusedSimpArgs false
set_option linter.unusedVariables false
set_option maxRecDepth 100000
open Go.RowKit

theorem Yield.load {P : Program} {o : Oper} {ev : Operand → Value} {w : World} {R : Value → World → Prop} {t : TypeId} {x : Operand} {u v : Value} {w' : World} (ho : o.op = .load t x) (hx : ev x = u) (hr : (Instr.loadAt t u).run P w = .ok v w') (h : R v w') : Yield P o ev w R := by
  unfold Yield execOp
  simp only [ho, hx, Sem.run_bind, hr, Result.andThen_ok, Sem.run_pure]
  exact h
theorem ldInt {w : World} {q i : Nat} {n : Int} (h : w.cell? ⟨q, i, none⟩ = some (.int .i64 n)) : (Instr.loadAt 3 (.pointer (some ⟨q, i, none⟩))).run Try.prog w = .ok (.int .i64 n) w := by simp [go_sem, h]
theorem ldInts {w : World} {q i : Nat} {a : Option Addr} {n c : Nat} (h : w.cell? ⟨q, i, none⟩ = some (.slice a n c)) : (Instr.loadAt 52 (.pointer (some ⟨q, i, none⟩))).run Try.prog w = .ok (.slice a n c) w := by simp [go_sem, h]
theorem ldStr {w : World} {q i : Nat} {s : ByteArray} (h : w.cell? ⟨q, i, none⟩ = some (.string s)) : (Instr.loadAt 9 (.pointer (some ⟨q, i, none⟩))).run Try.prog w = .ok (.string s) w := by simp [go_sem, h]
/-- A row of the call's own lies beside a block of another type. -/
theorem rowBeside {w : World} {base q n size : Nat} {e t : TypeId} {v : Value} {xs : List Value} {cs : Array Value} {fr : Nat × Nat} (ho : w.ownsRow base e size v n xs) (hq : w.heap[q]? = some (.cells cs t fr)) (hte : t ≠ e) : some q ≠ v.ownBlock := by
  rcases ho.2 with ⟨rfl, _⟩ | ⟨g, cap, cur, rfl, _, hgb, _⟩
  · simp [Value.ownBlock]
  · intro e'
    obtain rfl : q = g := by simpa [Value.ownBlock] using e'
    rw [hq] at hgb
    simp at hgb
    exact hte hgb.2.1
theorem grownSet (W : World) (b o : Nat) (v : Value) : W.grownBy (W.setCell ⟨b, o, none⟩ v) (some b) :=
  ⟨rfl, rfl, rfl, by simp [World.setCell], fun k _ hk => Below.heap_setCell _ _ _ k (fun e => hk (by rw [e]))⟩
theorem butSet (W : World) (b o : Nat) (v : Value) : But b W (W.setCell ⟨b, o, none⟩ v) := (But.refl _ _).setCell o none v
theorem rowBut {w w' : World} {p base n size : Nat} {e : TypeId} {v : Value} {xs : List Value} (ho : w.ownsRow base e size v n xs) (hne : some p ≠ v.ownBlock) (hb : But p w w') : w'.ownsRow base e size v n xs :=
  ho.kept (row := some p) ⟨hb.os, hb.tape, hb.output, hb.size, fun k hk hkp => hb.block k hk (fun e => hkp (by rw [e]))⟩ (.inr (Ne.symm hne))
theorem rowExt {w w' : World} {base n size : Nat} {e : TypeId} {v : Value} {xs : List Value} (ho : w.ownsRow base e size v n xs) (hE : Ext w w') : w'.ownsRow base e size v n xs :=
  ho.kept (row := none) ⟨hE.os, hE.tape, hE.output, hE.size, fun k hk _ => hE.block k hk⟩ (by
    rcases ho.2 with ⟨rfl, _⟩ | ⟨g, cap, cur, rfl, _⟩
    · exact .inl rfl
    · exact .inr (by simp [Value.ownBlock]))
theorem rowLower {w : World} {b b' n size : Nat} {e : TypeId} {xs : List Value} {v : Value} (h : w.ownsRow b e size v n xs) (hb : b' ≤ b) : w.ownsRow b' e size v n xs := by
  refine ⟨h.1, ?_⟩
  rcases h.2 with h | ⟨g, c, cur, h1, h2, h3⟩
  · exact .inl h
  · exact .inr ⟨g, c, cur, h1, Nat.le_trans hb h2, h3⟩
theorem ownSlice {w : World} {base n size : Nat} {e : TypeId} {v : Value} {xs : List Value} (h : w.ownsRow base e size v n xs) : ∃ a n c, v = .slice a n c := by
  rcases h.2 with ⟨rfl, _⟩ | ⟨g, c, cur, rfl, _⟩
  · exact ⟨_, _, _, rfl⟩
  · exact ⟨_, _, _, rfl⟩
theorem RD.grownRow {w w' : World} {p q n size : Nat} {s : Pack.St} {e : TypeId} {v : Value} {xs : List Value} (h : RD w p s) (ho : w.ownsRow q e size v n xs) (hg : w.grownBy w' v.ownBlock) (hpq : p < q) : RD w' p s :=
  h.keep fun k hk => hg.block k (by have := h.lt; omega) (fun e => by have := (ho.lt k e.symm).1; omega)
theorem RD.setBehind {w : World} {p q o : Nat} {s : Pack.St} {v : Value} (h : RD w p s) (hpq : p < q) : RD (w.setCell ⟨q, o, none⟩ v) p s :=
  h.keep fun k hk => Below.heap_setCell _ _ _ k (by show k ≠ q; omega)
theorem RD.heapOf {w : World} {p : Nat} {s : Pack.St} (h : RD w p s) : ∃ a n c, w.heap[p]? = some (.cells #[.slice a n c, .int .i64 s.err] 166 (0, 0)) := by
  obtain ⟨a, n, c, h, _⟩ := h
  exact ⟨a, n, c, h⟩
theorem numMost (s : Pack.St) (most : Int) (h : 0 ≤ most) : ((s.num most).2 : Int) ≤ most := by
  unfold Pack.St.num
  split
  · exact h
  · split
    · exact h
    · split
      · exact h
      · rename_i h3
        unfold Pack.wrong at h3
        simp only
        omega
theorem okNumOf {n : Int} (h : 0 ≤ n ∧ n ≤ 4611686018427387904) : okNum n = true := by
  unfold okNum
  rw [decide_eq_true_eq]
  omega
theorem oneNumOf {n : Int} (h : 0 ≤ n ∧ n ≤ 4611686018427387904) : oneNum n = Pack.num n.toNat := by unfold oneNum; rw [if_pos (okNumOf h)]
/-- []byte(s), read back. -/
theorem bytesOfConv (w : World) (l : List UInt8) (e : TypeId) (hl : l.length ≤ maxLen) : Bytes (Lib.bytesWorld w e ⟨l.toArray⟩) (.slice (some ⟨w.heap.size, 0, none⟩) l.length (grownCap w l.length 0 e)) l := by
  refine ⟨some ⟨w.heap.size, 0, none⟩, grownCap w l.length 0 e, by rw [u8s_length], by rw [u8s_length]; exact grownCap_ge _ _ _ _, grownCap_le_maxLen _ _ _ _ hl, fun e => by simp at e, fun i hi => ⟨_, _, rfl, ?_⟩⟩
  have hi' : i < l.length := by simpa using hi
  rw [Nat.zero_add, Lib.bytesWorld_cell w e _ i (by simpa [ByteArray.size] using hi')]
  simp [u8s, hi']
theorem extConv (w : World) (e : TypeId) (s : ByteArray) : Ext w (Lib.bytesWorld w e s) :=
  ⟨rfl, rfl, rfl, by rw [Lib.bytesWorld_size]; omega, fun k hk => Lib.bytesWorld_at_old w e s k hk⟩
theorem runConv (w : World) (l : List UInt8) : (convert 9 22 (.string ⟨l.toArray⟩)).run Try.prog w = .ok (.slice (some ⟨w.heap.size, 0, none⟩) l.length (grownCap w l.length 0 5)) (Lib.bytesWorld w 5 ⟨l.toArray⟩) := by
  have := Lib.run_convert_string_bytes (P := Try.prog) w 9 22 5 ⟨l.toArray⟩ Try.underlying9 Try.underlying22 Try.underlying5
  rwa [str_len] at this
theorem bytesEq (a b : List UInt8) : ((⟨a.toArray⟩ : ByteArray) = ⟨b.toArray⟩) ↔ a = b := by
  constructor
  · intro h
    have := congrArg (fun x => x.data.toList) h
    simpa using this
  · rintro rfl; rfl
/-- What an operation yields, not yet made: an error's number, or none. -/
def orErr (e : Int) : Bool → Int
  | true => 0
  | false => e
@[simp] theorem orErr_true (e : Int) : orErr e true = 0 := rfl
@[simp] theorem orErr_false (e : Int) : orErr e false = e := rfl
theorem runTo {P : Program} {w : World} {t e : TypeId} {size : Nat} (ht : P.underlying t = some (.slice e)) (hs : (P.info? e).map (·.size) = some size) {a : Option Addr} {n cap : Nat} (h : Nat) (hh : h ≤ cap) (k : IntKind) :
    (Instr.sliceAt t (.slice a n cap) none (some (.int k (h : Int))) none).run P w = .ok (.slice a h cap) w := by
  have he : P.elem t = e := by simp [Program.elem, ht]
  have ht' : P.underlying t = some (.slice (P.elem t)) := by rw [he]; exact ht
  obtain ⟨i, hi, h1⟩ := Option.map_eq_some_iff.1 hs
  rw [run_sliceAt_slice w t _ _ _ _ ht', run_slice_h w t a n cap ht' k h (by omega) (by omega)]
  simp [sizeOf, typeInfo, he, hi, Result.andThen, sliced, Addr.add]
end Go.Proofs.Ytpefengjpedifaa
