import Derived.Test.YtnoeconcpgdjlaaGreatBsLib
import Derived.Test.YtnoeconcpgdjlaaGreatBsPgD
namespace Go.Proofs.YtnoeconcpgdjlaaGreat
set_option linter.unusedSimpArgs false
set_option linter.unusedVariables false
open Go.RowKit Go.Shelf
attribute [local go_sem] Oper.semAt_some
theorem ztk : (Tryz.prog.info? 3).map (fun i => (i.zero, i.size, i.bytes)) = some (some (.int .i64 0), 1, 8) := by kernel_rfl
theorem Yield.app {P : Program} {o : Oper} {ev : Operand -> Value} {w w' : World} {R : Value -> World -> Prop} {s x : Operand} {t : TypeId} {v u v' : Value} (ho : o.op = .call { callee := .builtin .append, args := #[s, x], argTypes := #[t, t] }) (hs : ev s = v) (hx : ev x = u)
 (hr : (Builtin.append_ #[t, t] o.type #[v, u]).run P w = .ok v' w') (h : R v' w') : Yield P o ev w R := by
 unfold Yield execOp
 simp only [ho, resolve, invoke, builtin, Sem.run_bind, Sem.run_pure, Result.andThen_ok, List.map_toArray, List.map_cons, List.map_nil, hs, hx, hr]
 exact h
theorem ldStP {w : World} {q i p : Nat} (h : w.cell? ⟨q, i, none⟩ = some (.pointer (some ⟨p, 0, none⟩))) : (Instr.loadAt 111 (.pointer (some ⟨q, i, none⟩))).run Tryz.prog w = .ok (.pointer (some ⟨p, 0, none⟩)) w := by simp [go_sem, h]
theorem Bytes.offU {w : World} {p : Nat} {cs : Array Value} {t : TypeId} {fr : Nat × Nat} {v : Value} {l : List UInt8} (h : Bytes w v l) (hp : w.heap[p]? = some (.cells cs t fr)) (hu : ∀ n, Value.int .u8 n ∉ cs.toList) : Off (fun k => k = p) v := by
 rintro ad n c rfl hn rfl
 have hl := h.len
 obtain ⟨a', cap', e, _, _, _, h3⟩ := h.open
 obtain ⟨b, off, e2, hc⟩ := h3 0 (by omega)
 injection e with e
 rw [<- e] at e2
 injection e2 with e2
 rw [e2] at hp
 rw [zaa hp] at hc
 exact hu _ (Array.mem_toList_iff.2 (Array.mem_of_getElem? hc))
def zcn (xs : List Elem) : List Int := ((0 :: xs.map Elem.pos).take xs.length).map fun n => ((n : Nat) : Int)
@[simp] theorem startsOf_length (xs : List Elem) : (zcn xs).length = xs.length := by simp [zcn]
theorem zhc (xs : List Elem) (x : Elem) : zcn (xs ++ [x]) = zcn xs ++ [((zdd xs : Nat) : Int)] := by
 unfold zcn zdd
 have e1 : ((0 :: (xs ++ [x]).map Elem.pos).take (xs ++ [x]).length) = 0 :: xs.map Elem.pos := by
  rw [List.map_append, <- List.cons_append, List.take_append_of_le_length (by simp), List.take_of_length_le (by simp)]
 have e2 : (0 :: xs.map Elem.pos) = (0 :: xs.map Elem.pos).take xs.length ++ [((xs.map Elem.pos).getLast?).getD 0] := by
  rcases List.eq_nil_or_concat xs with rfl | ⟨ys, y, rfl⟩
  . rfl
  . rw [List.concat_eq_append]
    simp only [List.map_append, List.map_cons, List.map_nil, List.length_append, List.length_singleton, List.getLast?_append, List.getLast?_singleton, Option.some_or, Option.getD_some]
    rw [<- List.cons_append, List.take_append_of_le_length (by simp), List.take_of_length_le (by simp)]
 rw [e1]
 conv => lhs; rw [e2]
 rw [List.map_append]
 rfl
theorem zhv {xs : List Elem} {l : List (List UInt8)} (h : xs.map Elem.pos = Page.ends l) : zcn xs = Page.offs l := by
 have hl : xs.length = l.length := by have := congrArg List.length h; simpa using this
 apply List.ext_getElem
 . simp [hl]
 . intro i h1 h2
   rw [Page.offs_get]
   unfold zcn
   simp only [h, List.getElem_map, List.getElem_take]
   cases i with
   | zero => simp [Page.bytes]
   | succ i => simp [Page.ends]
def zfr (p : Nat) (x3 : Value) (w : World) (bs : List UInt8) (e : Ending) (w' : World) : Prop := e = .returned (.tuple #[]) /\ But p w w' /\ ∃ va vp,
 w'.heap[p]? = some (.cells #[va, vp, .int .i64 ((Page.scan bs).2 : Nat), x3] 143 (0, 0)) /\ w'.ownsRow w.heap.size 5 1 va (Page.scan bs).2 (u8s (Page.bytes (Page.scan bs).1)) ∧
 w'.ownsRow w.heap.size 3 1 vp (Page.scan bs).1.length (i64s (Page.offs (Page.scan bs).1))
theorem butSt {p B : Nat} {w A C : World} (h : But p w A) (hs : StF B A C) (hB : w.heap.size <= B) : But p w C :=
 ⟨hs.os.trans h.os, hs.tape.trans h.tape, hs.output.trans h.output, Nat.le_trans h.size hs.size, fun k hk hkp => by
  have h1 := h.block k hk hkp
  have h2 : w.heap[k]? = some w.heap[k] := by simp [hk]
  rw [h2] at h1 ⊢
  exact hs.same k _ h1 (.inl (by omega))⟩
theorem TwoSet.undrew {W C : World} {row : Option Nat} {p q : Nat} (h : TwoSet W.drew row p q C) : TwoSet W row p q C := ⟨h.os, h.tape, h.output, h.size, h.same⟩
theorem zik (a b : List Int) : i64s (a ++ b) = i64s a ++ i64s b := by simp [i64s]
theorem zbk {a b : World} {q : Addr} {v : Value} (h : a.cell? q = some v) (hE : Ext a b) : b.cell? q = some v := (World.cell?_of_block (hE.block _ (World.block_lt_of_cell? a _ h))).trans h
def BoxKept (q : Nat) (a b : World) : Prop := ∀ v, a.cell? ⟨q, 0, none⟩ = some v -> b.cell? ⟨q, 0, none⟩ = some v
theorem BoxKept.same {q : Nat} {a b : World} (h : q < a.heap.size -> b.heap[q]? = a.heap[q]?) : BoxKept q a b := fun v hv => (World.cell?_of_block (h (World.block_lt_of_cell? a _ hv))).trans hv
theorem tIntE : ElemOf Tryz.prog 22 3 (.int .i64 0) 8 := ⟨Tryz.underlying22, by kernel_rfl, rfl⟩
def zbt (a0 : Option Addr) (n0 c0 : Nat) (a1 : Option Addr) (n1 c1 : Nat) (k : Int) (o : Bool) : Array Value := #[.slice a0 n0 c0, .slice a1 n1 c1, .int .i64 k, .bool o]
theorem zpe {a0 : Option Addr} {n0 c0 : Nat} {a1 : Option Addr} {n1 c1 : Nat} {k : Int} {o : Bool} : ∀ n, Value.int .u8 n ∉ (zbt a0 n0 c0 a1 n1 c1 k o).toList := by simp [zbt]
set_option maxRecDepth 100000 in
set_option maxHeartbeats 4000000 in
theorem ziv (p : Nat) (a0 : Option Addr) (n0 c0 : Nat) (a1 : Option Addr) (n1 c1 : Nat) (k : Int) (o : Bool) (v : Value) (bs : List UInt8) (w : World) (hp : w.heap[p]? = some (.cells (zbt a0 n0 c0 a1 n1 c1 k o) 143 (0, 0))) (hv : Bytes w v bs) (hlen : bs.length <= 200000) :
 Calls Tryz.prog 77 #[.pointer (some ⟨p, 0, none⟩), v] w (zfr p (.bool o) w bs) := by
 have HV := Hi hv
 have HP := Hi hp
 obtain ⟨a, n, c, rfl⟩ := hv.isSlice
 have hpw := (Array.getElem?_eq_some_iff.1 hp).1
 have hc0 := zaa hp 0
 have hc1 := zaa hp 1
 have hc2 := zaa hp 2
 have hc3 := zaa hp 3
 have hf1 := zac hp 1
 have hf2 := zac hp 2
 clear hv hp
 refine (callsIn_wide (n := 3)).1 ?_
 refine callsIn_of_wp_marks Tryz.func77 rfl trivial ?_ rfl
 refine wpIn_wide.2 ?_
 simp only [Tryz.ntmps77, List.size_toArray, List.length_cons, List.length_nil, Nat.reduceAdd, Nat.reduceSub, Array.replicate_succ, Array.replicate_zero, List.push_toArray, List.append_toArray, List.nil_append, List.cons_append]
 go_upto_region 1 with fail
 generalize hw1 : World.alloc _ _ = w1
 have hs1 : w1.heap.size = w.heap.size + 1 := by rw [<- hw1]; simp
 have hE1 : Ext w w1 := by rw [<- hw1]; exact Ext.alloc _ _
 have hbx : w1.heap[w.heap.size]? = some (.cells #[.pointer (some ⟨p, 0, none⟩)] 111 (0, 0)) := by rw [<- hw1]; exact World.alloc_heap_new _ _
 have hp1 : w1.heap[p]? = some (.cells (zbt a0 n0 c0 a1 n1 c1 k o) 143 (0, 0)) := zad HP.out hE1
 clear hc0 hc1 hc2 hc3 hf1 hf2 hw1
 have hbc : w1.drew.cell? ⟨w.heap.size, 0, none⟩ = some (.pointer (some ⟨p, 0, none⟩)) := zaa hbx 0
 have d1 : w1.drew.cell? ⟨p, 1, none⟩ = some (.slice a1 n1 c1) := zaa hp1 1
 have d2 : w1.drew.cell? ⟨p, 2, none⟩ = some (.int .i64 k) := zaa hp1 2
 have e1 : w1.drew.frozen? ⟨p, 1, none⟩ = false := zac (w := w1.drew) hp1 1
 have e2 : w1.drew.frozen? ⟨p, 2, none⟩ = false := zac (w := w1.drew) hp1 2
 have hbc1 : w1.cell? ⟨w.heap.size, 0, none⟩ = some (.pointer (some ⟨p, 0, none⟩)) := hbc
 have d3 : w1.cell? ⟨p, 1, none⟩ = some (.slice a1 n1 c1) := d1
 have d4 : w1.cell? ⟨p, 2, none⟩ = some (.int .i64 k) := d2
 have e3 : w1.frozen? ⟨p, 1, none⟩ = false := e1
 have e4 : w1.frozen? ⟨p, 2, none⟩ = false := e2
 have hne : ¬ w.heap.size = p := by omega
 have hne2 : ¬ p = w.heap.size := by omega
 go_cut [5] from 5 to 10 (fun s5 wx => s5 = .pointer (some ⟨p, 0, none⟩) /\ wx = ((w1.setCell ⟨p, 1, none⟩ (.slice none 0 0)).setCell ⟨p, 2, none⟩ (.int .i64 0)).drew)
 case first =>
  go_region
  all_goals
   go_wp2_with fail
   go_meet
   exact ⟨rfl, rfl⟩
 case rest =>
  obtain ⟨rfl, hcut⟩ := hcut
  rw [show wc = (w1.drew.setCell ⟨p, 1, none⟩ (.slice none 0 0)).setCell ⟨p, 2, none⟩ (.int .i64 0) from hcut]
  have hp2 := heap_setCell (w := w1.drew.setCell ⟨p, 1, none⟩ (.slice none 0 0)) (heap_setCell (w := w1.drew) hp1 1 (.slice none 0 0)) 2 (.int .i64 0)
  have hb2 : But p w1 ((w1.drew.setCell ⟨p, 1, none⟩ (.slice none 0 0)).setCell ⟨p, 2, none⟩ (.int .i64 0)) := ((But.drew p (But.refl p w1)).setCell 1 none _).setCell 2 none _
  obtain ⟨w2, hw2⟩ : ∃ w2, (w1.drew.setCell ⟨p, 1, none⟩ (.slice none 0 0)).setCell ⟨p, 2, none⟩ (.int .i64 0) = w2 := ⟨_, rfl⟩
  rw [hw2] at hp2 hb2 ⊢
  have hs2 : w2.heap.size = w.heap.size + 1 := by rw [<- hw2, <- hs1]; simp [World.setCell]
  have hbx2 : w2.heap[w.heap.size]? = some (.cells #[.pointer (some ⟨p, 0, none⟩)] 111 (0, 0)) := (hb2.block _ (by omega) hne).trans hbx
  clear hw2 hbc hbc1 d1 d2 e1 e2 d3 d4 e3 e4 hbx hp1
  go_wp2_with fail
  refine (zgs (.slice a n c) w2 ⟨_, _, _, rfl⟩).mono ?_
  rintro e w3 ⟨rfl, hw3⟩
  have hs3 : w3.heap.size = w.heap.size + 2 := by rw [hw3]; simp [hs2]
  have hE3 : Ext w2 w3 := by rw [hw3]; exact Ext.alloc _ _
  have hp3 := zad hp2 hE3
  have hbx3 := zad hbx2 hE3
  have hB3 : w3.heap[w.heap.size + 1]? = some (.cells #[.slice a n c] 141 (0, 0)) := by rw [hw3, <- hs2]; exact World.alloc_heap_new _ _
  have hc3 : w3.cell? ⟨w.heap.size + 1, 0, none⟩ = some (.slice a n c) := zaa hB3 0
  have hBut : But p w w3 := ((Ext.but hE1 p).trans hb2).trans (Ext.but hE3 p)
  have hv3 : Bytes w3 (.slice a n c) bs := HV.out.off HP.out zpe hBut
  have hoff : Off (fun k => k = p) (.slice a n c) := HV.out.offU HP.out zpe
  have htell := ze8 (3 - 1) (by omega) (w.heap.size + 1) (fun k => k = p) (.slice a n c) bs w3 hv3 hoff hlen (by omega) (by omega) hc3
  rw [hs2]
  clear hw3 hs2 hb2 hE3 hp2 hbx2 hv3 hoff hc3 hE1 hs1
  have HT := Hi htell
  clear htell
  go_wp2_with fail
  have hp3' : w3.heap[p]? = some (.cells (zbt a0 n0 c0 none 0 0 0 o) 143 (0, 0)) := hp3
  clear hp3 hcut
  obtain ⟨i0, hi, hz0, hz1, hz2⟩ := info_parts ztk
  refine (wpIn_wide (n := 3)).1 ?_
  refine zdi (n := 3) rfl (by omega) (gf := 144) (lb := #[.pointer (some ⟨w.heap.size + 1, 0, none⟩)]) rfl trivial (enters_of Tryz.func144 (by kernel_rfl) rfl)
   HT.out (fun _ => rfl) (fun _ _ _ h k => h.trans k) (fun W l o o' h1 h2 h3 => KpF.put W l o o' h1 h2 h3) (fun x W l o o' h1 h2 h3 => h3.keep (KeepU.put W l o o' h1 h2))
   (fun A C k o h1 h2 h3 => h1.same k o h2 (.inr (by rintro ⟨cs, fr, rfl⟩; cases h3)))
   (fun pre W => (∃ a1 c1, W.heap[p]? = some (.cells (zbt a0 n0 c0 a1 pre.length c1 (zdd pre : Nat) o) 143 (0, 0)) /\ W.ownsRow w3.heap.size 3 1 (.slice a1 pre.length c1) pre.length (i64s (zcn pre))) /\ But p w3 W)
   ?own ?st ?start
   (fun x => { tmps := #[.pointer (some ⟨p, 0, none⟩), .slice a n c, .pointer (some ⟨w.heap.size, 0, none⟩), undef, .int .i64 (x.pos : Int), .pointer (some ⟨p, 0, none⟩), u6, u7, u8, u9, u10, .slice a n c, .func (.func 144) #[] #[.pointer (some ⟨w.heap.size + 1, 0, none⟩)], .int .i64 (x.pos : Int), .slice x.a x.n x.c, undef, undef, undef, undef, undef, undef, undef, undef, undef, undef, undef, undef, undef, undef, undef, undef, undef, undef, undef, undef, undef, undef, undef, undef, undef, undef, undef, undef, undef, undef, undef], defers := [] }) ?assign ?body ?done
  case own =>
   rintro pre W W' row ⟨⟨a1, c1, h1, h2⟩, h3⟩ hg hr
   have hr' := fun r e => (hr r e).2
   exact ⟨⟨a1, c1, (zcw hg hr' h1).trans h1, zew h2 fun g cs hgc => zcw hg hr' hgc⟩, h3.grown hg (fun k e => (hr k e).1)⟩
  case st =>
   rintro pre A C ⟨⟨a1, c1, h1, h2⟩, h3⟩ hst
   exact ⟨⟨a1, c1, (zf1 hst h1 (by decide)).trans h1, zew h2 fun g cs hgc => zf1 hst hgc (by decide)⟩, butSt h3 hst (by omega)⟩
  case start => exact ⟨⟨none, 0, hp3', World.ownsRow_nil _ _ _ _⟩, But.refl _ _⟩
  case assign =>
   intro l x W K hK
   dsimp only [Elem.encs]
   gi_wp2
   exact hK
  case body =>
   rintro l pre x W ⟨⟨a1, c1, h1, h2⟩, h3⟩ hpl hG
   gi_wp2
   have hbW : W.heap[w.heap.size]? = some (.cells #[.pointer (some ⟨p, 0, none⟩)] 111 (0, 0)) := (h3.block _ (by omega) hne).trans hbx3
   have hbox : W.cell? ⟨w.heap.size, 0, none⟩ = some (.pointer (some ⟨p, 0, none⟩)) := zaa hbW 0
   have hsz3 := h3.size
   obtain ⟨old, hold⟩ : ∃ old : Int, ((zdd pre : Nat) : Int) = old := ⟨_, rfl⟩
   rw [hold] at h1
   have hp1a : (W.drew.alloc (.cells #[.int .i64 old] 3)).heap[p]? = some (.cells (zbt a0 n0 c0 a1 pre.length c1 old o) 143 (0, 0)) := zad (w := W.drew) h1 (Ext.alloc _ _)
   have hpl1 : pre.length + 1 <= maxLen := by unfold maxLen; omega
   have hpl2 : (pre.length + 1) * 8 <= 140737488355328 := by omega
   obtain ⟨v', W2, hrun, ho2, hg2⟩ := zp3 (P := Tryz.prog) (w := W.drew.alloc (.cells #[.int .i64 old] 3)) (ty := 22) tIntE ((h2 : W.drew.ownsRow _ _ _ _ _ _).alloc (.cells #[.int .i64 old] 3)) (Ints.one W.drew old) (by intro y hy; simp [i64s] at hy; subst hy; rfl) hpl1 hpl2 (by simp; omega)
   obtain ⟨g, cap, rfl⟩ := ownsRow_succ ho2
   have hlow : ∀ k, k < w3.heap.size -> some k ≠ (Value.slice a1 pre.length c1).ownBlock := fun k hk => ziz h2 hk
   have hp2 : W2.heap[p]? = some (.cells (zbt a0 n0 c0 a1 pre.length c1 old o) 143 (0, 0)) := (hg2.block p (Array.getElem?_eq_some_iff.1 hp1a).1 (hlow p (by omega))).trans hp1a
   have hp3 := heap_setCell hp2 1 (.slice (some ⟨g, 0, none⟩) (pre.length + 1) cap)
   have hp4 := heap_setCell hp3 2 (.int .i64 (x.pos : Int))
   have c01 : W.drew.cell? ⟨p, 1, none⟩ = some (.slice a1 pre.length c1) := zaa (w := W.drew) h1 1
   have c02 : W.drew.cell? ⟨p, 2, none⟩ = some (.int .i64 old) := zaa (w := W.drew) h1 2
   have c11 : (W.drew.alloc (.cells #[.int .i64 old] 3)).cell? ⟨p, 1, none⟩ = some (.slice a1 pre.length c1) := zaa hp1a 1
   have c21 : W2.cell? ⟨p, 1, none⟩ = some (.slice a1 pre.length c1) := zaa hp2 1
   have f21 := zac hp2 1
   have c32 : (W2.setCell ⟨p, 1, none⟩ (.slice (some ⟨g, 0, none⟩) (pre.length + 1) cap)).cell? ⟨p, 2, none⟩ = some (.int .i64 old) := zaa hp3 2
   have f32 := zac hp3 2
   obtain ⟨Wk, k0, k1, k2, k3, k4⟩ : ∃ Wk : Nat -> World, Wk 0 = W.drew /\ Wk 1 = W.drew.alloc (.cells #[.int .i64 old] 3) /\ Wk 2 = W2 /\ Wk 3 = W2.setCell ⟨p, 1, none⟩ (.slice (some ⟨g, 0, none⟩) (pre.length + 1) cap) ∧
    Wk 4 = (W2.setCell ⟨p, 1, none⟩ (.slice (some ⟨g, 0, none⟩) (pre.length + 1) cap)).setCell ⟨p, 2, none⟩ (.int .i64 (x.pos : Int)) :=
    ⟨fun n => match n with | 0 => _ | 1 => _ | 2 => _ | 3 => _ | _ => _, rfl, rfl, rfl, rfl, rfl⟩
   refine zi7 (by kernel_rfl) (by rintro ⟨a, w, h⟩; exact h) (by kernel_rfl) Eq (BoxKept w.heap.size) (fun iop v w => match iop with
    | 0 => v = .pointer (some ⟨p, 0, none⟩)
    | 1 => v = .pointer (some ⟨p, 0, none⟩)
    | 2 => v = .pointer (some ⟨p, 0, none⟩)
    | 3 => v = .pointer (some ⟨p, 0, none⟩)
    | 4 => v = .pointer (some ⟨p, 1, none⟩)
    | 5 => v = .slice a1 pre.length c1
    | 6 => v = .pointer (some ⟨p, 0, none⟩)
    | 7 => v = .pointer (some ⟨p, 0, none⟩)
    | 8 => v = .pointer (some ⟨p, 2, none⟩)
    | 9 => v = .int .i64 old
    | 10 => v = .slice (some ⟨W.heap.size, 0, none⟩) 1 1
    | 11 => v = .slice (some ⟨g, 0, none⟩) (pre.length + 1) cap
    | 12 => v = .int .i64 (x.pos : Int)
    | 13 => v = .pointer (some ⟨p, 0, none⟩)
    | 14 => v = .pointer (some ⟨p, 1, none⟩)
    | 15 => v = undef
    | 16 => v = .pointer (some ⟨p, 0, none⟩)
    | 17 => v = .pointer (some ⟨p, 2, none⟩)
    | _ => v = undef
    ) [10, 11, 15, 18] (fun n w => w = Wk n) (by kernel_rfl) (fun _ _ _ h k v hv => k v (h v hv)) (fun _ => rfl) (fun _ _ h v hv => h ▸ hv) (fun _ _ _ h hs => h.symm.trans hs) (fun v hv => hv) k0.symm ?_ ?_ ?_ ?_
   . intro iop v wa wb hF hL
     iterate 18 (rcases iop with _ | iop; exact hF)
     exact hF
   . refine Obls2.cons ?_ (Obls2.cons ?_ (Obls2.cons ?_ (Obls2.cons ?_ (Obls2.cons ?_ (Obls2.cons ?_ (Obls2.cons ?_ (Obls2.cons ?_ (Obls2.cons ?_ (Obls2.cons ?_ (Obls2.cons ?_ (Obls2.cons ?_ (Obls2.cons ?_ (Obls2.cons ?_ (Obls2.cons ?_ (Obls2.cons ?_ (Obls2.cons ?_ (Obls2.cons ?_ (Obls2.cons ?_ (Obls2.nil)))))))))))))))))))
     . intro ev wy ls hp hl hS hbh hk hd
       rw [if_neg (by decide)]
       have e2 : ev _ = .pointer (some ⟨w.heap.size, 0, none⟩) := hk 2 (by decide)
       exact Yield.load rfl e2 (ldStP (hl _ hbox)) ⟨rfl, rfl⟩
     . intro ev wy ls hp hl hS hbh hk hd
       rw [if_neg (by decide)]
       have e2 : ev _ = .pointer (some ⟨w.heap.size, 0, none⟩) := hk 2 (by decide)
       exact Yield.load rfl e2 (ldStP (hl _ hbox)) ⟨rfl, rfl⟩
     . intro ev wy ls hp hl hS hbh hk hd
       rw [if_neg (by decide)]
       have e2 : ev _ = .pointer (some ⟨w.heap.size, 0, none⟩) := hk 2 (by decide)
       exact Yield.load rfl e2 (ldStP (hl _ hbox)) ⟨rfl, rfl⟩
     . intro ev wy ls hp hl hS hbh hk hd
       rw [if_neg (by decide)]
       have e17 : ev _ = _ := hk 17 (by decide)
       exact Yield.op (v := .pointer (some ⟨p, 0, none⟩)) (w' := wy) (by simp [execOp, go_sem, e17]) ⟨rfl, rfl⟩
     . intro ev wy ls hp hl hS hbh hk hd
       rw [if_neg (by decide)]
       have e18 : ev _ = _ := hk 18 (by decide)
       exact Yield.op (v := .pointer (some ⟨p, 1, none⟩)) (w' := wy) (by simp [execOp, go_sem, e18]) ⟨rfl, rfl⟩
     . intro ev wy ls hp hl hS hbh hk hd
       rw [if_neg (by decide)]
       have e19 : ev _ = _ := hk 19 (by decide)
       have q11 : ls 11 = false := Bool.eq_false_iff.2 fun hq => absurd (hbh.closed 11 _ rfl hq 5 (by decide)) (by rw [hbh.notyet]; decide)
       have q15 : ls 15 = false := Bool.eq_false_iff.2 fun hq => absurd (hbh.closed 15 _ rfl hq 5 (by decide)) (by rw [hbh.notyet]; decide)
       have q18 : ls 18 = false := Bool.eq_false_iff.2 fun hq => absurd (hbh.closed 18 _ rfl hq 5 (by decide)) (by rw [hbh.notyet]; decide)
       have hcell : wy.cell? ⟨p, 1, none⟩ = some (.slice a1 pre.length c1) := by
        have hst := hS
        cases q10 : ls 10 with
        | false =>
         rw [show stage [10, 11, 15, 18] ls = 0 from by simp [stage, List.filter, q10, q11, q15, q18]] at hst
         rw [show wy = Wk 0 from hst, k0]; exact c01
        | true =>
         rw [show stage [10, 11, 15, 18] ls = 1 from by simp [stage, List.filter, q10, q11, q15, q18]] at hst
         rw [show wy = Wk 1 from hst, k1]; exact c11
       exact Yield.load rfl e19 (zs8 hcell) ⟨rfl, rfl⟩
     . intro ev wy ls hp hl hS hbh hk hd
       rw [if_neg (by decide)]
       have hc10 : ls 10 = false := Bool.eq_false_iff.2 fun hq => absurd (hbh.closed 7 _ rfl (hbh.closed 8 _ rfl (hbh.closed 9 _ rfl (hbh.closed 10 _ rfl (hq) 9 (by decide)) 8 (by decide)) 7 (by decide)) 6 (by decide)) (by rw [hbh.notyet]; decide)
       have hc11 : ls 11 = false := Bool.eq_false_iff.2 fun hq => absurd (hbh.closed 7 _ rfl (hbh.closed 8 _ rfl (hbh.closed 9 _ rfl (hbh.closed 10 _ rfl (hbh.closed 11 _ rfl (hq) 10 (by decide)) 9 (by decide)) 8 (by decide)) 7 (by decide)) 6 (by decide)) (by rw [hbh.notyet]; decide)
       have hc15 : ls 15 = false := Bool.eq_false_iff.2 fun hq => absurd (hbh.closed 15 _ rfl (hq) 6 (by decide)) (by rw [hbh.notyet]; decide)
       have hc18 : ls 18 = false := Bool.eq_false_iff.2 fun hq => absurd (hbh.closed 18 _ rfl (hq) 6 (by decide)) (by rw [hbh.notyet]; decide)
       have hst := hS
       rw [show stage [10, 11, 15, 18] ls = 0 from by simp [stage, List.filter, hc10, hc11, hc15, hc18]] at hst
       clear hc10 hc11 hc15 hc18 hS hbh
       have e2 : ev _ = .pointer (some ⟨w.heap.size, 0, none⟩) := hk 2 (by decide)
       exact Yield.load rfl e2 (ldStP (hl _ hbox)) ⟨rfl, rfl⟩
     . intro ev wy ls hp hl hS hbh hk hd
       rw [if_neg (by decide)]
       have hc10 : ls 10 = false := Bool.eq_false_iff.2 fun hq => absurd (hbh.closed 8 _ rfl (hbh.closed 9 _ rfl (hbh.closed 10 _ rfl (hq) 9 (by decide)) 8 (by decide)) 7 (by decide)) (by rw [hbh.notyet]; decide)
       have hc11 : ls 11 = false := Bool.eq_false_iff.2 fun hq => absurd (hbh.closed 8 _ rfl (hbh.closed 9 _ rfl (hbh.closed 10 _ rfl (hbh.closed 11 _ rfl (hq) 10 (by decide)) 9 (by decide)) 8 (by decide)) 7 (by decide)) (by rw [hbh.notyet]; decide)
       have hc15 : ls 15 = false := Bool.eq_false_iff.2 fun hq => absurd (hbh.closed 15 _ rfl (hq) 7 (by decide)) (by rw [hbh.notyet]; decide)
       have hc18 : ls 18 = false := Bool.eq_false_iff.2 fun hq => absurd (hbh.closed 18 _ rfl (hq) 7 (by decide)) (by rw [hbh.notyet]; decide)
       have hst := hS
       rw [show stage [10, 11, 15, 18] ls = 0 from by simp [stage, List.filter, hc10, hc11, hc15, hc18]] at hst
       clear hc10 hc11 hc15 hc18 hS hbh
       have e21 : ev _ = _ := hk 21 (by decide)
       exact Yield.op (v := .pointer (some ⟨p, 0, none⟩)) (w' := wy) (by simp [execOp, go_sem, e21]) ⟨rfl, rfl⟩
     . intro ev wy ls hp hl hS hbh hk hd
       rw [if_neg (by decide)]
       have hc10 : ls 10 = false := Bool.eq_false_iff.2 fun hq => absurd (hbh.closed 9 _ rfl (hbh.closed 10 _ rfl (hq) 9 (by decide)) 8 (by decide)) (by rw [hbh.notyet]; decide)
       have hc11 : ls 11 = false := Bool.eq_false_iff.2 fun hq => absurd (hbh.closed 9 _ rfl (hbh.closed 10 _ rfl (hbh.closed 11 _ rfl (hq) 10 (by decide)) 9 (by decide)) 8 (by decide)) (by rw [hbh.notyet]; decide)
       have hc15 : ls 15 = false := Bool.eq_false_iff.2 fun hq => absurd (hbh.closed 15 _ rfl (hq) 8 (by decide)) (by rw [hbh.notyet]; decide)
       have hc18 : ls 18 = false := Bool.eq_false_iff.2 fun hq => absurd (hbh.closed 18 _ rfl (hq) 8 (by decide)) (by rw [hbh.notyet]; decide)
       have hst := hS
       rw [show stage [10, 11, 15, 18] ls = 0 from by simp [stage, List.filter, hc10, hc11, hc15, hc18]] at hst
       clear hc10 hc11 hc15 hc18 hS hbh
       have e22 : ev _ = _ := hk 22 (by decide)
       exact Yield.op (v := .pointer (some ⟨p, 2, none⟩)) (w' := wy) (by simp [execOp, go_sem, e22]) ⟨rfl, rfl⟩
     . intro ev wy ls hp hl hS hbh hk hd
       rw [if_neg (by decide)]
       have hc10 : ls 10 = false := Bool.eq_false_iff.2 fun hq => absurd (hbh.closed 10 _ rfl (hq) 9 (by decide)) (by rw [hbh.notyet]; decide)
       have hc11 : ls 11 = false := Bool.eq_false_iff.2 fun hq => absurd (hbh.closed 10 _ rfl (hbh.closed 11 _ rfl (hq) 10 (by decide)) 9 (by decide)) (by rw [hbh.notyet]; decide)
       have hc15 : ls 15 = false := Bool.eq_false_iff.2 fun hq => absurd (hbh.closed 15 _ rfl (hq) 9 (by decide)) (by rw [hbh.notyet]; decide)
       have hc18 : ls 18 = false := Bool.eq_false_iff.2 fun hq => absurd (hbh.closed 18 _ rfl (hq) 9 (by decide)) (by rw [hbh.notyet]; decide)
       have hst := hS
       rw [show stage [10, 11, 15, 18] ls = 0 from by simp [stage, List.filter, hc10, hc11, hc15, hc18]] at hst
       clear hc10 hc11 hc15 hc18 hS hbh
       have e23 : ev _ = _ := hk 23 (by decide)
       exact Yield.load rfl e23 (ldInt (by rw [show wy = Wk 0 from hst, k0]; exact c02)) ⟨rfl, rfl⟩
     . intro ev wy ls hp hl hS hbh hk hd
       rw [if_pos (by decide)]
       have hc10 : ls 10 = false := hbh.notyet
       have hc11 : ls 11 = false := Bool.eq_false_iff.2 fun hq => absurd (hbh.closed 11 _ rfl (hq) 10 (by decide)) (by rw [hbh.notyet]; decide)
       have hc15 : ls 15 = false := Bool.eq_false_iff.2 fun hq => absurd (hbh.closed 15 _ rfl (hq) 10 (by decide)) (by rw [hbh.notyet]; decide)
       have hc18 : ls 18 = false := Bool.eq_false_iff.2 fun hq => absurd (hbh.closed 18 _ rfl (hq) 10 (by decide)) (by rw [hbh.notyet]; decide)
       have hst := hS
       rw [show stage [10, 11, 15, 18] ls = 0 from by simp [stage, List.filter, hc10, hc11, hc15, hc18]] at hst
       have hup : stage [10, 11, 15, 18] (upd ls 10) = 1 := by simp [stage, List.filter, upd, hc10, hc11, hc15, hc18]
       clear hc10 hc11 hc15 hc18 hS hbh
       have e24 : ev _ = _ := hk 24 (by decide)
       have hwy : wy = W.drew := (show wy = Wk 0 from hst).trans k0
       subst hwy
       exact Yield.op (v := .slice (some ⟨W.heap.size, 0, none⟩) 1 1) (w' := W.drew.alloc (.cells #[.int .i64 old] 3)) (by simp [execOp, go_sem, e24]) ⟨BoxKept.same (fun h => Below.heap_alloc _ _ _ h), rfl, by rw [hup]; exact k1.symm⟩
     . intro ev wy ls hp hl hS hbh hk hd
       rw [if_pos (by decide)]
       have hc10 : ls 10 = true := hbh.ready 10 (by decide)
       have hc11 : ls 11 = false := hbh.notyet
       have hc15 : ls 15 = false := Bool.eq_false_iff.2 fun hq => absurd (hbh.closed 15 _ rfl (hq) 11 (by decide)) (by rw [hbh.notyet]; decide)
       have hc18 : ls 18 = false := Bool.eq_false_iff.2 fun hq => absurd (hbh.closed 18 _ rfl (hq) 11 (by decide)) (by rw [hbh.notyet]; decide)
       have hst := hS
       rw [show stage [10, 11, 15, 18] ls = 1 from by simp [stage, List.filter, hc10, hc11, hc15, hc18]] at hst
       have hup : stage [10, 11, 15, 18] (upd ls 11) = 2 := by simp [stage, List.filter, upd, hc10, hc11, hc15, hc18]
       clear hc10 hc11 hc15 hc18 hS hbh
       have e20 : ev _ = _ := hk 20 (by decide)
       have e25 : ev _ = _ := hk 25 (by decide)
       have hwy : wy = W.drew.alloc (.cells #[.int .i64 old] 3) := (show wy = Wk 1 from hst).trans k1
       subst hwy
       exact Yield.app rfl e20 e25 hrun ⟨BoxKept.same (fun h => hg2.block _ h (hlow _ (by omega))), rfl, by rw [hup]; exact k2.symm⟩
     . intro ev wy ls hp hl hS hbh hk hd
       rw [if_neg (by decide)]
       have e4 : ev _ = .int .i64 (x.pos : Int) := hk 4 (by decide)
       exact Yield.mv rfl ⟨rfl, e4⟩
     . intro ev wy ls hp hl hS hbh hk hd
       rw [if_neg (by decide)]
       have hc10 : ls 10 = true := hbh.ready 10 (by decide)
       have hc11 : ls 11 = true := hbh.ready 11 (by decide)
       have hc15 : ls 15 = false := Bool.eq_false_iff.2 fun hq => absurd (hbh.closed 14 _ rfl (hbh.closed 15 _ rfl (hq) 14 (by decide)) 13 (by decide)) (by rw [hbh.notyet]; decide)
       have hc18 : ls 18 = false := Bool.eq_false_iff.2 fun hq => absurd (hbh.closed 18 _ rfl (hq) 13 (by decide)) (by rw [hbh.notyet]; decide)
       have hst := hS
       rw [show stage [10, 11, 15, 18] ls = 2 from by simp [stage, List.filter, hc10, hc11, hc15, hc18]] at hst
       clear hc10 hc11 hc15 hc18 hS hbh
       have e15 : ev _ = _ := hk 15 (by decide)
       exact Yield.op (v := .pointer (some ⟨p, 0, none⟩)) (w' := wy) (by simp [execOp, go_sem, e15]) ⟨rfl, rfl⟩
     . intro ev wy ls hp hl hS hbh hk hd
       rw [if_neg (by decide)]
       have hc10 : ls 10 = true := hbh.ready 10 (by decide)
       have hc11 : ls 11 = true := hbh.ready 11 (by decide)
       have hc15 : ls 15 = false := Bool.eq_false_iff.2 fun hq => absurd (hbh.closed 15 _ rfl (hq) 14 (by decide)) (by rw [hbh.notyet]; decide)
       have hc18 : ls 18 = false := Bool.eq_false_iff.2 fun hq => absurd (hbh.closed 18 _ rfl (hq) 14 (by decide)) (by rw [hbh.notyet]; decide)
       have hst := hS
       rw [show stage [10, 11, 15, 18] ls = 2 from by simp [stage, List.filter, hc10, hc11, hc15, hc18]] at hst
       clear hc10 hc11 hc15 hc18 hS hbh
       have e28 : ev _ = _ := hk 28 (by decide)
       exact Yield.op (v := .pointer (some ⟨p, 1, none⟩)) (w' := wy) (by simp [execOp, go_sem, e28]) ⟨rfl, rfl⟩
     . intro ev wy ls hp hl hS hbh hk hd
       rw [if_pos (by decide)]
       have hc10 : ls 10 = true := hbh.ready 10 (by decide)
       have hc11 : ls 11 = true := hbh.ready 11 (by decide)
       have hc15 : ls 15 = false := hbh.notyet
       have hc18 : ls 18 = false := Bool.eq_false_iff.2 fun hq => absurd (hbh.closed 18 _ rfl (hq) 15 (by decide)) (by rw [hbh.notyet]; decide)
       have hst := hS
       rw [show stage [10, 11, 15, 18] ls = 2 from by simp [stage, List.filter, hc10, hc11, hc15, hc18]] at hst
       have hup : stage [10, 11, 15, 18] (upd ls 15) = 3 := by simp [stage, List.filter, upd, hc10, hc11, hc15, hc18]
       clear hc10 hc11 hc15 hc18 hS hbh
       have e29 : ev _ = _ := hk 29 (by decide)
       have e26 : ev _ = _ := hk 26 (by decide)
       have hwy : wy = W2 := (show wy = Wk 2 from hst).trans k2
       subst hwy
       exact Yield.skip (w' := wy.setCell ⟨p, 1, none⟩ (.slice (some ⟨g, 0, none⟩) (pre.length + 1) cap)) (by simp [execOp, go_sem, e29, e26, c21, f21]) ⟨BoxKept.same (fun h => Below.heap_setCell _ _ _ _ hne), rfl, by rw [hup]; exact k3.symm⟩
     . intro ev wy ls hp hl hS hbh hk hd
       rw [if_neg (by decide)]
       have hc10 : ls 10 = true := hbh.ready 10 (by decide)
       have hc11 : ls 11 = true := hbh.ready 11 (by decide)
       have hc15 : ls 15 = true := hbh.ready 15 (by decide)
       have hc18 : ls 18 = false := Bool.eq_false_iff.2 fun hq => absurd (hbh.closed 17 _ rfl (hbh.closed 18 _ rfl (hq) 17 (by decide)) 16 (by decide)) (by rw [hbh.notyet]; decide)
       have hst := hS
       rw [show stage [10, 11, 15, 18] ls = 3 from by simp [stage, List.filter, hc10, hc11, hc15, hc18]] at hst
       clear hc10 hc11 hc15 hc18 hS hbh
       have e16 : ev _ = _ := hk 16 (by decide)
       exact Yield.op (v := .pointer (some ⟨p, 0, none⟩)) (w' := wy) (by simp [execOp, go_sem, e16]) ⟨rfl, rfl⟩
     . intro ev wy ls hp hl hS hbh hk hd
       rw [if_neg (by decide)]
       have hc10 : ls 10 = true := hbh.ready 10 (by decide)
       have hc11 : ls 11 = true := hbh.ready 11 (by decide)
       have hc15 : ls 15 = true := hbh.ready 15 (by decide)
       have hc18 : ls 18 = false := Bool.eq_false_iff.2 fun hq => absurd (hbh.closed 18 _ rfl (hq) 17 (by decide)) (by rw [hbh.notyet]; decide)
       have hst := hS
       rw [show stage [10, 11, 15, 18] ls = 3 from by simp [stage, List.filter, hc10, hc11, hc15, hc18]] at hst
       clear hc10 hc11 hc15 hc18 hS hbh
       have e30 : ev _ = _ := hk 30 (by decide)
       exact Yield.op (v := .pointer (some ⟨p, 2, none⟩)) (w' := wy) (by simp [execOp, go_sem, e30]) ⟨rfl, rfl⟩
     . intro ev wy ls hp hl hS hbh hk hd
       rw [if_pos (by decide)]
       have hc10 : ls 10 = true := hbh.ready 10 (by decide)
       have hc11 : ls 11 = true := hbh.ready 11 (by decide)
       have hc15 : ls 15 = true := hbh.ready 15 (by decide)
       have hc18 : ls 18 = false := hbh.notyet
       have hst := hS
       rw [show stage [10, 11, 15, 18] ls = 3 from by simp [stage, List.filter, hc10, hc11, hc15, hc18]] at hst
       have hup : stage [10, 11, 15, 18] (upd ls 18) = 4 := by simp [stage, List.filter, upd, hc10, hc11, hc15, hc18]
       clear hc10 hc11 hc15 hc18 hS hbh
       have e31 : ev _ = _ := hk 31 (by decide)
       have e27 : ev _ = _ := hk 27 (by decide)
       have hwy : wy = W2.setCell ⟨p, 1, none⟩ (.slice (some ⟨g, 0, none⟩) (pre.length + 1) cap) := (show wy = Wk 3 from hst).trans k3
       subst hwy
       exact Yield.skip (w' := (W2.setCell ⟨p, 1, none⟩ (.slice (some ⟨g, 0, none⟩) (pre.length + 1) cap)).setCell ⟨p, 2, none⟩ (.int .i64 (x.pos : Int))) (by simp [execOp, go_sem, e31, e27, c32, f32]) ⟨BoxKept.same (fun h => Below.heap_setCell _ _ _ _ hne), rfl, by rw [hup]; exact k4.symm⟩
   . decide
   . intro vals wz hz hS hv
     have g15 : vals 0 = _ := hv 0 (by decide)
     have g16 : vals 1 = _ := hv 1 (by decide)
     have g17 : vals 2 = _ := hv 2 (by decide)
     have g18 : vals 3 = _ := hv 3 (by decide)
     have g19 : vals 4 = _ := hv 4 (by decide)
     have g20 : vals 5 = _ := hv 5 (by decide)
     have g21 : vals 6 = _ := hv 6 (by decide)
     have g22 : vals 7 = _ := hv 7 (by decide)
     have g23 : vals 8 = _ := hv 8 (by decide)
     have g24 : vals 9 = _ := hv 9 (by decide)
     have g25 : vals 10 = _ := hv 10 (by decide)
     have g26 : vals 11 = _ := hv 11 (by decide)
     have g27 : vals 12 = _ := hv 12 (by decide)
     have g28 : vals 13 = _ := hv 13 (by decide)
     have g29 : vals 14 = _ := hv 14 (by decide)
     have gn15 : vals 15 = _ := hv 15 (by decide)
     have g30 : vals 16 = _ := hv 16 (by decide)
     have g31 : vals 17 = _ := hv 17 (by decide)
     have gn18 : vals 18 = _ := hv 18 (by decide)
     clear hv
     simp only [zar, Act.put, List.setIfInBounds_toArray, List.set_cons_zero, List.set_cons_succ, g15, g16, g17, g18, g19, g20, g21, g22, g23, g24, g25, g26, g27, g28, g29, g30, g31]
     clear g15 g16 g17 g18 g19 g20 g21 g22 g23 g24 g25 g26 g27 g28 g29 gn15 g30 g31 gn18
     have hwz : wz = Wk 4 := hS
     rw [k4] at hwz
     subst hwz
     have ht : TwoSet W (Value.slice a1 pre.length c1).ownBlock p p ((W2.setCell ⟨p, 1, none⟩ (.slice (some ⟨g, 0, none⟩) (pre.length + 1) cap)).setCell ⟨p, 2, none⟩ (.int .i64 (x.pos : Int))) := (zr6 (W := W.drew) hg2 p 1 p 2 _ _).undrew
     have hk1 := zbe ho2 (zaj ho2 hp2 (by decide)) (za2 W2 p 1 (.slice (some ⟨g, 0, none⟩) (pre.length + 1) cap))
     have hk2 := zbe hk1 (zaj hk1 hp3 (by decide)) (za2 _ p 2 (.int .i64 (x.pos : Int)))
     clear hz hS hp2 hp3 c01 c02 c11 c21 c32 f21 f32 k0 k1 k2 k3 k4 hrun ho2 hk1 hp1a hg2
     generalize (W2.setCell ⟨p, 1, none⟩ (.slice (some ⟨g, 0, none⟩) (pre.length + 1) cap)).setCell ⟨p, 2, none⟩ (.int .i64 (x.pos : Int)) = Wf at *
     gi_wp2
     refine ⟨⟨ht.size, fun k o' hB hk ho => (ht.same k (Array.getElem?_eq_some_iff.1 hk).1 (by omega) (by omega) (rowNe h2 hk (by rintro cs rfl; cases ho))).trans hk⟩, ?_, ⟨some ⟨g, 0, none⟩, cap, ?_, ?_⟩, ?_⟩
     . intro k o' hk ho
       have hkp : k ≠ p := by
        rintro rfl
        rcases ho with ho | ⟨cs, fr, rfl⟩
        . exact ho.2 rfl
        . rw [h1] at hk; simp at hk
       refine (ht.same k (Array.getElem?_eq_some_iff.1 hk).1 hkp hkp ?_).trans hk
       rcases ho with ho | ⟨cs, fr, rfl⟩
       . exact hlow k ho.1
       . exact rowNe h2 hk (by intro cs' e; injection e with _ e _; exact absurd e (by decide))
     . rw [zfo, List.length_append]
       exact hp4
     . rw [zhc, hold, zik, List.length_append]
       exact hk2
     . exact ⟨ht.os.trans h3.os, ht.tape.trans h3.tape, ht.output.trans h3.output, Nat.le_trans h3.size ht.size, fun k hk hkp => (ht.same k (by omega) hkp hkp (hlow k hk)).trans (h3.block k hk hkp)⟩
  case done =>
   rintro D xs W hD ⟨hx1, hx2⟩ ⟨⟨a1, c1, h1, h2⟩, h3⟩ hK
   have hup := zfi hx2
   have hst := zhv hx2
   have hlx : xs.length = (Page.scan bs).1.length := by rw [<- hx1]; simp
   rw [hst, hlx] at h2
   rw [hup, hlx] at h1
   have hsc := Page.scan_is _ bs (Nat.le_refl _)
   obtain ⟨U, hU⟩ : ∃ U, (Page.scan bs).2 = U := ⟨_, rfl⟩
   rw [hU] at h1 hsc
   have hn := HV.out.len
   have hUn : U <= bs.length := by
    have := congrArg List.length hsc.2.1
    rw [<- hsc.2.2, List.length_take] at this
    omega
   have hbW : W.heap[w.heap.size]? = some (.cells #[.pointer (some ⟨p, 0, none⟩)] 111 (0, 0)) := (h3.block _ (by omega) hne).trans hbx3
   have hbox : W.cell? ⟨w.heap.size, 0, none⟩ = some (.pointer (some ⟨p, 0, none⟩)) := zaa hbW 0
   have c2 : W.cell? ⟨p, 2, none⟩ = some (.int .i64 (U : Nat)) := zaa h1 2
   have hvW : Bytes W (.slice a n c) bs := HV.out.off HP.out zpe (hBut.trans h3)
   have hpart : Bytes W (.slice a U U) (bs.take U) := hvW.part0 U (by omega)
   have hcl : (bs.take U).length <= 140737488355328 := by simp; omega
   have hEq : Page.bytes (Page.scan bs).1 = bs.take U := hsc.2.1
   have HS := Hi hsc
   clear hsc hup hst hx1 hx2 hlx
   gi_wp2
   refine zbf (by kernel_rfl) 12 Ext (fun iop v w => match iop with
    | 0 => v = .pointer (some ⟨p, 0, none⟩)
    | 1 => v = .slice a n c
    | 2 => v = .pointer (some ⟨p, 0, none⟩)
    | 3 => v = .pointer (some ⟨p, 0, none⟩)
    | 4 => v = .pointer (some ⟨p, 2, none⟩)
    | 5 => v = .int .i64 (U : Nat)
    | 6 => v = .pointer (some ⟨p, 0, none⟩)
    | 7 => v = .pointer (some ⟨p, 0, none⟩)
    | 8 => v = .pointer (some ⟨p, 2, none⟩)
    | 9 => v = .int .i64 (U : Nat)
    | 10 => v = .slice a U U
    | _ => w.ownsRow W.heap.size 5 1 v (bs.take U).length (u8s (bs.take U))
    ) (by kernel_rfl) (by kernel_rfl) (by decide) (fun _ _ _ h k => Ext.trans h k) (fun a => Ext.refl a) (Ext.drew _) ?_ ?_ ?_
   . intro iop v wa wb hF hL
     iterate 11 (rcases iop with _ | iop; exact hF)
     (first | exact hF | exact za0 hF hL)
   . refine Obls.cons ?_ (Obls.cons ?_ (Obls.cons ?_ (Obls.cons ?_ (Obls.cons ?_ (Obls.cons ?_ (Obls.cons ?_ (Obls.cons ?_ (Obls.cons ?_ (Obls.cons ?_ (Obls.cons ?_ (Obls.cons ?_ (Obls.nil))))))))))))
     . intro ev wy hp hl hk hd
       have e2 : ev _ = .pointer (some ⟨w.heap.size, 0, none⟩) := hk 2 (by decide)
       exact Yield.load rfl e2 (ldStP (zbk hbox hl)) ⟨Ext.refl _, rfl⟩
     . intro ev wy hp hl hk hd
       have e1 : ev _ = .slice a n c := hk 1 (by decide)
       exact Yield.mv rfl ⟨Ext.refl _, e1⟩
     . intro ev wy hp hl hk hd
       have e2 : ev _ = .pointer (some ⟨w.heap.size, 0, none⟩) := hk 2 (by decide)
       exact Yield.load rfl e2 (ldStP (zbk hbox hl)) ⟨Ext.refl _, rfl⟩
     . intro ev wy hp hl hk hd
       have e34 : ev _ = _ := hk 34 (by decide)
       exact Yield.oq (by simp [execOp, go_sem, e34])
     . intro ev wy hp hl hk hd
       have e35 : ev _ = _ := hk 35 (by decide)
       exact Yield.oq (by simp [execOp, go_sem, e35])
     . intro ev wy hp hl hk hd
       have e36 : ev _ = _ := hk 36 (by decide)
       exact Yield.load rfl e36 (ldInt (zbk c2 hl)) ⟨Ext.refl _, rfl⟩
     . intro ev wy hp hl hk hd
       have e2 : ev _ = .pointer (some ⟨w.heap.size, 0, none⟩) := hk 2 (by decide)
       exact Yield.load rfl e2 (ldStP (zbk hbox hl)) ⟨Ext.refl _, rfl⟩
     . intro ev wy hp hl hk hd
       have e38 : ev _ = _ := hk 38 (by decide)
       exact Yield.oq (by simp [execOp, go_sem, e38])
     . intro ev wy hp hl hk hd
       have e39 : ev _ = _ := hk 39 (by decide)
       exact Yield.oq (by simp [execOp, go_sem, e39])
     . intro ev wy hp hl hk hd
       have e40 : ev _ = _ := hk 40 (by decide)
       exact Yield.load rfl e40 (ldInt (zbk c2 hl)) ⟨Ext.refl _, rfl⟩
     . intro ev wy hp hl hk hd
       have e33 : ev _ = _ := hk 33 (by decide)
       have e37 : ev _ = _ := hk 37 (by decide)
       have e41 : ev _ = _ := hk 41 (by decide)
       exact Yield.slice rfl e33 (by simp only [Option.map_none, Option.map_some, e37, e41]; exact zm2 Tryz.underlying141 (by kernel_rfl) U (by omega) .i64 .i64) ⟨Ext.refl _, rfl⟩
     . intro ev wy hp hl hk hd
       have e42 : ev _ = _ := hk 42 (by decide)
       refine Yield.call rfl hp Tryz.func111 rfl (by kernel_rfl) ?_
       simp only [List.map_toArray, List.map_cons, List.map_nil, e42]
       exact (zdl _ (bs.take U) wy (hpart.below hl) hcl).mono fun e w' ⟨u, he, ho, hb⟩ => ⟨u, he, hb, zaw ho hl.size⟩
   . intro vals wz hz hv
     have g32 : vals 0 = _ := hv 0 (by decide)
     have g33 : vals 1 = _ := hv 1 (by decide)
     have g34 : vals 2 = _ := hv 2 (by decide)
     have g35 : vals 3 = _ := hv 3 (by decide)
     have g36 : vals 4 = _ := hv 4 (by decide)
     have g37 : vals 5 = _ := hv 5 (by decide)
     have g38 : vals 6 = _ := hv 6 (by decide)
     have g39 : vals 7 = _ := hv 7 (by decide)
     have g40 : vals 8 = _ := hv 8 (by decide)
     have g41 : vals 9 = _ := hv 9 (by decide)
     have g42 : vals 10 = _ := hv 10 (by decide)
     have g43 : (fun (v : Value) (w : World) => w.ownsRow W.heap.size 5 1 v (bs.take U).length (u8s (bs.take U))) (vals 11) wz := hv 11 (by decide)
     clear hv
     simp only [List.take_succ_cons, List.take_zero, List.drop_succ_cons, List.drop_zero]
     simp only [zar, Act.put, List.setIfInBounds_toArray, List.set_cons_zero, List.set_cons_succ, g32, g33, g34, g35, g36, g37, g38, g39, g40, g41, g42]
     clear g32 g33 g34 g35 g36 g37 g38 g39 g40 g41 g42
     generalize vals 11 = v43 at *
     obtain ⟨ga, gn, gc, rfl⟩ := zao g43
     have hpz := zad h1 hz
     have z0 : wz.cell? ⟨p, 0, none⟩ = some (.slice a0 n0 c0) := zaa hpz 0
     have f0 := zac hpz 0
     have h2z := za0 h2 hz
     have hKz := zad hK hz
     have h3z := h3.trans (Ext.but hz p)
     have hWw : w.heap.size <= W.heap.size := Nat.le_trans hBut.size h3.size
     have HG := Hi g43
     clear g43 hbox c2 hvW hpart hcl h1 h2 hK h3 hbW
     go_wp2_with fail
     have hset := heap_setCell hpz 0 (.slice ga gn gc)
     have hKs : (wz.setCell ⟨p, 0, none⟩ (.slice ga gn gc)).heap[D]? = some (.deferred (some [])) := (Below.heap_setCell _ _ _ _ (by
      rintro rfl
      rw [hpz] at hKz
      cases hKz)).trans hKz
     have hDp : ¬ p = D := by
      rintro rfl
      rw [hpz] at hKz
      cases hKz
     refine ⟨by simp, .inl ⟨D, _, rfl, run_takeDeferred hKs, ?_⟩⟩
     refine ⟨_, results_none rfl _ _ _, rfl, ?_, .slice ga gn gc, .slice a1 (Page.scan bs).1.length c1, ?_, ?_, ?_⟩
     . exact hBut.trans ⟨h3z.os, h3z.tape, h3z.output, by have := h3z.size; simp [World.setCell]; omega, fun k hk hkp => (World.putObj_heap_other (by omega)).trans ((Below.heap_setCell _ _ _ k hkp).trans (h3z.block k hk hkp))⟩
     . refine (World.putObj_heap_other hDp).trans ?_
       rw [hset, hU]
       rfl
     . refine ownsRow_putObj ?_ _ hKs rfl
       have hg := zbe HG.out (zaj HG.out hpz (by decide)) (za2 wz p 0 (.slice ga gn gc))
       rw [hEq, hU]
       have hlen2 : (bs.take U).length = U := by rw [List.length_take]; omega
       rw [hlen2] at hg
       exact zaw hg hWw
     . refine ownsRow_putObj ?_ _ hKs rfl
       exact zaw (zbe h2z (zaj h2z hpz (by decide)) (za2 wz p 0 (.slice ga gn gc))) (by omega)
end Go.Proofs.YtnoeconcpgdjlaaGreat
