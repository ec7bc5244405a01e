/-
  Merged: Layer 11: order.
-/
import Derived.Test.YtckdofhcifdpmaaGreatBsEnt
import Derived.Test.YtckdofhcifdpmaaGreatBsPgH
import Derived.Test.YtckdofhcifdpmaaGreatBsRpE

namespace Go.Proofs.YtckdofhcifdpmaaGreat
set_option linter.unusedSimpArgs false
set_option linter.unusedVariables false
set_option maxRecDepth 100000
open Go.RowKit
/- Layer 11: order. -/
theorem wp_appN_keep {P : Program} {w : World} {o : Oper} {a : Act} {K : Act → World → Prop} {Q : Exit → Act → World → Prop} (s x : Operand) {t e : TypeId} {z : Value} {size bytes : Nat} (E : ElemN P t e z size bytes)
    (ho : o.op = .call { callee := .builtin .append, args := #[s, x], argTypes := #[t, t] }) {base : Nat} {v u : Value} {n m : Nat} {xs ys : List Value} (hs : a.eval s = v) (hx : a.eval x = u)
    (hown : w.ownsRow base e size v n xs) (hu : SlN size w u m ys) (hm : 0 < m) (h1 : ∀ y ∈ ys, y.oneCell' = true) (hsz : n + m ≤ maxLen) (hby : (n + m) * bytes ≤ 140737488355328) (hb : base ≤ w.heap.size)
    (h : ∀ v' w', Hid (w'.ownsRow base e size v' (n + m) (xs ++ ys) ∧ w.grownBy w' v.ownBlock ∧ (∀ k, v'.ownBlock = some k → v.ownBlock = some k ∨ w.heap.size ≤ k) ∧ w'.ownsRow base e size v n xs) → K (a.put o.dst v') w') : o.wp P a w K Q := by
  obtain ⟨v', w', hr, h2, h3, h4, h5⟩ := run_appN_keep (P := P) (ty := o.type) E hown hu hm h1 hsz hby hb
  unfold Oper.wp execOp
  simp only [ho, resolve, invoke, builtin, Sem.run_bind, Sem.run_pure, Result.andThen_ok, List.map_toArray, List.map_cons, List.map_nil, hs, hx, hr]
  exact h v' w' (Lib.hid ⟨h2, h3, h4, h5⟩)
def GivesOrder (B : Nat) (S : Nat → Prop) (x : Nat) (w : World) (r : Rep.Rp) (err : Int) (e : Ending) (w' : World) : Prop := e = .returned (.int .i64 err) ∧ LeavesRep B S x w r w'
theorem Rep.order_is {r : Rep.Rp} {e : Ent.E} {k : Rep.OCase} (h : r.ocase e = k) (hk : k ≠ .next) : r.order e = r := by
  unfold Rep.Rp.order
  rw [h]
  cases k <;> first | rfl | exact absurd rfl hk
def Rep.errAt (r : Rep.Rp) (e : Ent.E) : Rep.OCase → Int
  | .there => 0
  | .other => 112
  | .shut => 110
  | .gap => 111
  | .next => r.s.appendErr (Ent.enc e)
theorem Rep.orderErr_is {r : Rep.Rp} {e : Ent.E} {k : Rep.OCase} (h : r.ocase e = k) : r.orderErr e = Rep.errAt r e k := by
  unfold Rep.Rp.orderErr
  rw [h]
  rfl
theorem Ent.cut_small {e : Ent.E} (h : Ent.right e = true) : e.cut.length ≤ 8 := by
  rcases (Ent.right_ok h).2 with ⟨_, hv, _⟩ | ⟨_, hv, _⟩
  · exact (Vec.right_ok hv).2.2
  · rw [hv]; exact Nat.zero_le _
theorem ownLen {w : World} {base size n m c : Nat} {a : Option Addr} {e : TypeId} {xs : List Value} (h : w.ownsRow base e size (.slice a n c) m xs) : n = m := by
  rcases h.2 with ⟨e, e2⟩ | ⟨g, cap, cur, e, _⟩
  · injection e with _ e3 _
    omega
  · injection e with _ e3 _
theorem Rep.follows_gap {r : Rep.Rp} {e : Ent.E} (h1 : ¬ e.number ≤ (r.w.l.length : Int)) (h2 : r.w.sealed = false) (h3 : ¬ (r.w.l.length : Int) + 1 < e.number) : r.ocase e = if Ent.follows r.w.l e = true then .next else .other := by
  unfold Rep.Rp.ocase Rep.Rp.len
  rw [if_neg h1, if_neg (by rw [h2]; simp), if_neg h3]
/-- An entry more. -/
theorem IsRepS.more {w w1 w2 : World} {B x p : Nat} {S : Nat → Prop} {va vp va' vp' ev lv u : Value} {es : List (Value × Ent.E)} {r : Rep.Rp} {e : Ent.E} (h : IsRepS w1 B S x p va vp ev es r) (hT : TwS S w w1) (hA : Appended w1 B p va vp r.s (Ent.enc e) w2 va' vp')
    (hc : r.ocase e = .next) (h0 : r.s.appendErr (Ent.enc e) = 0) (hl : w1.ownsRow B 77 6 lv (es ++ [(u, e)]).length (entFlat (es ++ [(u, e)]))) (hlv : ∀ k, lv.ownBlock = some k → ev.ownBlock = some k ∨ w.heap.size ≤ k) (hu : RowN w.heap.size w1 u e.cut) (hut : TagI w1 vp u e.cut) (hB : B ≤ w.heap.size) :
    LeavesRep B S x w (r.order e) (w2.setCell ⟨x, 3, none⟩ lv) := by
  obtain ⟨hs, hf⟩ := Rep.ocase_next hc
  have ho : r.order e = ⟨r.id, r.term, r.s.append (Ent.enc e), ⟨r.w.l ++ [e], r.w.sealed⟩⟩ := by
    unfold Rep.Rp.order
    rw [hc]
    simp only
    rw [if_pos h0]
  have hat := h.at'.app h.sto hA
  have hT2 := hT.trans (h.appended hA)
  have hbx : But x w2 (w2.setCell ⟨x, 3, none⟩ lv) := butSet _ _ _ _
  have hrow := rowApp h.sto hA hl
  have hT3 : TwS S w (w2.setCell ⟨x, 3, none⟩ lv) := hT2.trans (TwS.but hbx h.x2)
  have hx := heap_setCell hat.heap 3 lv
  have hnx : ∀ {k : Nat} {cs : Array Value} {T : TypeId} {fr : Nat × Nat}, w2.heap[k]? = some (.cells cs T fr) → T ≠ 135 → (w2.setCell ⟨x, 3, none⟩ lv).heap[k]? = w2.heap[k]? := fun hk hT => hbx.block _ (Array.getElem?_eq_some_iff.1 hk).1 (fun e => by subst e; rw [hat.heap] at hk; injection hk with hk; injection hk with _ e _; exact hT e.symm)
  have hsz := (Nat.le_trans hT.size hA.size)
  have hszx : (w2.setCell ⟨x, 3, none⟩ lv).heap.size = w2.heap.size := by simp
  refine ⟨?_, hT3⟩
  rw [ho]
  refine ⟨p, va', vp', lv, es ++ [(u, e)], h.x1, .inl h.x2, h.p1, .inl h.p2, fun k hk => ?_, fun k hk => ?_, fun k hk => ?_, fun q hq k hk => ?_, ?_, ?_, ?_⟩
  · rcases hA.newA with e | e | e
    · exact .inl (h.ua k (e ▸ hk))
    · exact .inl (h.ua k (e ▸ hk))
    · exact .inr ⟨Nat.le_trans hT.size (e k hk), by rw [hszx]; exact (hA.sto.all.lt k hk).2⟩
  · rcases hA.newP with e | e | e
    · exact .inl (h.up k (e ▸ hk))
    · exact .inl (h.up k (e ▸ hk))
    · exact .inr ⟨Nat.le_trans hT.size (e k hk), by rw [hszx]; exact (hA.sto.places.lt k hk).2⟩
  · rcases hlv k hk with e | e
    · exact .inl (h.ue k e)
    · exact .inr ⟨e, by rw [hszx]; exact (hrow.lt k hk).2⟩
  · rcases List.mem_append.1 hq with hq | hq
    · exact .inl (h.tags q hq k hk)
    · obtain rfl := List.mem_singleton.1 hq
      refine .inr ⟨hu.low (Nat.le_refl _) k hk, ?_⟩
      obtain ⟨cur, hcur⟩ := hu.row.at hk
      rw [hszx]
      exact Nat.lt_of_lt_of_le (Array.getElem?_eq_some_iff.1 hcur).1 hA.size
  · exact ⟨(hnx hA.sto.heap (by decide)).trans hA.sto.heap, rowOwn hA.sto.all fun k hk => by
      obtain ⟨cur, hcur⟩ := ownAt hA.sto.all hk
      exact hnx hcur (by decide), rowOwn hA.sto.places fun k hk => by
      obtain ⟨cur, hcur⟩ := ownAt hA.sto.places hk
      exact hnx hcur (by decide), hA.sto.ok⟩
  · have hcutA : ∀ q ∈ es ++ [(u, e)], TagI w2 vp' q.1 q.2.cut := fun q hq => by
      rcases List.mem_append.1 hq with hq | hq
      · exact hat.cuts q hq
      · obtain rfl := List.mem_singleton.1 hq
        refine ⟨hut.1.same fun k hk => ?_, fun k hk e => ?_⟩
        · obtain ⟨cur, hcur⟩ := hut.1.at hk
          refine hA.block k (Array.getElem?_eq_some_iff.1 hcur).1 (fun e => by subst e; rw [h.sto.heap] at hcur; injection hcur with hcur; injection hcur with _ e _; exact absurd e (by decide)) (rowBeside h.sto.all hcur (by decide)) (fun e => hut.2 k hk e.symm)
        · obtain ⟨cur, hcur⟩ := hut.1.at hk
          have hlt := (Array.getElem?_eq_some_iff.1 hcur).1
          rcases hA.newP with hn | hn | hn
          · rw [hn] at e; exact hut.2 k hk e
          · rw [hn] at e; exact hut.2 k hk e
          · have := hn k e
            omega
    refine ⟨hx, rowOwn hrow fun k hk => ?_, ?_, fun q hq => ⟨(hcutA q hq).1.same fun k hk => ?_, (hcutA q hq).2⟩, fun q hq k hk => ?_⟩
    · obtain ⟨cur, hcur⟩ := ownAt hrow hk
      exact hnx hcur (by decide)
    · rw [List.map_append, h.at'.ents]
      rfl
    · obtain ⟨cur, hcur⟩ := (hcutA q hq).1.at hk
      exact hnx hcur (by decide)
    · rcases List.mem_append.1 hq with hq | hq
      · exact h.at'.low q hq k hk
      · obtain rfl := List.mem_singleton.1 hq
        exact hu.low hB k hk
  · have := h.ok.order e
    rw [ho] at this
    exact this
set_option maxHeartbeats 16000000 in
theorem order11_any {w : World} {B x p : Nat} {S : Nat → Prop} {va vp ev : Value} {es : List (Value × Ent.E)} {r : Rep.Rp} (h : IsRepS w B S x p va vp ev es r) (t : Value) (e : Ent.E) (hr : Ent.right e = true) (hv : ∀ w', TwS S w w' → Ints w' t e.cut) :
    Calls Tryz.prog 70 #[.pointer (some ⟨x, 0, none⟩), entV t e] w (GivesOrder B S x w (r.order e) (r.orderErr e)) := by
  have hbx := box_ent
  obtain ⟨ta, tn, tc, rfl⟩ := intsSlice (hv w (TwS.ext (Ext.refl w)))
  have hnum : 1 ≤ e.number ∧ e.number ≤ 1099511627776 := (Ent.right_ok hr).1
  obtain ⟨i, hi⟩ : ∃ i : Nat, e.number = (i : Int) + 1 := ⟨(e.number - 1).toNat, by omega⟩
  have hi40 : i ≤ 1099511627776 := by omega
  have hlen : r.w.l.length ≤ 13107 := by
    have h1 := Rep.readF_len h.ok.is
    have h2 := Page.count_le r.s.l
    have h3 := h.ok.sto.max
    omega
  obtain ⟨n, hn⟩ : ∃ n, r.w.l.length = n := ⟨_, rfl⟩
  rw [hn] at hlen
  obtain ⟨w1, hw1⟩ : ∃ z, w.alloc (.cells #[.int .i64 ((i : Int) + 1), .int .i64 e.kind, .slice ta tn tc, .int .i64 e.tag, .int .i64 e.term, .int .i64 e.pos] 77) = z := ⟨_, rfl⟩
  obtain ⟨q, hq⟩ : ∃ z, w.heap.size = z := ⟨_, rfl⟩
  have hE1 : Ext w w1 := by rw [← hw1]; exact Ext.alloc _ _
  have hx1 : w1.heap[q]? = some (.cells #[.int .i64 ((i : Int) + 1), .int .i64 e.kind, .slice ta tn tc, .int .i64 e.tag, .int .i64 e.term, .int .i64 e.pos] 77 (0, 0)) := by rw [← hw1, ← hq]; exact heap_alloc_new _ _
  have HR1 := Lib.hid (h.ext hE1)
  have HV := Lib.hid (fun w' ht => (⟨_, by unfold entV; rw [hi], hv w' ht⟩ : IsEnt w' (.agg #[.int .i64 ((i : Int) + 1), .int .i64 e.kind, .slice ta tn tc, .int .i64 e.tag, .int .i64 e.term, .int .i64 e.pos]) e))
  have HR := Lib.hid hr
  have HNI := Lib.hid (And.intro hn hi)
  have HW1 := Lib.hid (And.intro hw1 hq)
  have HX1 := Lib.hid hx1
  have HE1 := Lib.hid hE1
  have HCI := Lib.hid hv
  have HLT := Lib.hid (And.intro (fun k (hk : ev.ownBlock = some k) => (h.at'.row.lt k hk).2) (And.intro (fun k (hk : vp.ownBlock = some k) => (h.sto.places.lt k hk).2) h.base))
  unfold entV
  rw [hi]
  obtain ⟨f1, hf1⟩ : ∃ z, e.kind = z := ⟨_, rfl⟩
  obtain ⟨f3, hf3⟩ : ∃ z, e.tag = z := ⟨_, rfl⟩
  obtain ⟨f4, hf4⟩ : ∃ z, e.term = z := ⟨_, rfl⟩
  obtain ⟨f5, hf5⟩ : ∃ z, e.pos = z := ⟨_, rfl⟩
  rw [hf1, hf3, hf4, hf5] at HV HX1 HW1 hx1 ⊢
  have HFF := Lib.hid (And.intro hf1 (And.intro hf3 (And.intro hf4 hf5)))
  have c0 : w1.cell? ⟨q, 0, none⟩ = some (.int .i64 ((i : Int) + 1)) := cell_of_heap hx1 0
  clear hv hr hnum hn hi hw1 hq hx1 hE1 h hf1 hf3 hf4 hf5
  go_enter Tryz.func70, Tryz.ntmps70
  go_wp2_with fail
  rw [HW1.out.1, HW1.out.2]
  refine (len11_any HR1.out.at').mono ?_
  rintro e' w2 ⟨rfl, rfl⟩
  rw [HNI.out.1]
  by_cases hle : i + 1 ≤ n
  · have hcase : r.ocase e = if Ent.alike (r.w.l.getD i Msg.ent0) e = true then .there else .other := by
      unfold Rep.Rp.ocase Rep.Rp.len
      rw [HNI.out.1, HNI.out.2, if_pos (by omega), show ((i : Int) + 1 - 1).toNat = i by omega]
    have hil : i < r.w.l.length := by rw [HNI.out.1]; omega
    have hel : r.w.l.getD i Msg.ent0 = r.w.l[i] := by rw [List.getD_eq_getElem?_getD, List.getElem?_eq_getElem hil]; rfl
    rw [hel] at hcase
    obtain ⟨_, cap, e1, hc1, hc2, _, hc⟩ := HR1.out.at'.entsAt
    obtain ⟨b, off, rfl, t0, p0, p1, p2, p3, p4, p5, ht0⟩ := hc i hil
    subst e1
    obtain ⟨a0, n0, k0, rfl⟩ := intsSlice ht0
    rw [HNI.out.1] at hc1
    have h3 : w1.cell? ⟨x, 3, none⟩ = some (.slice (some ⟨b, off, none⟩) n cap) := by
      have := cell_of_heap HR1.out.at'.heap 3
      rw [← HNI.out.1]
      exact this
    generalize hE0 : r.w.l[i] = E0 at hcase p0 p1 p2 p3 p4 p5 ht0
    obtain ⟨ab, hab⟩ : ∃ z, Ent.alike E0 e = z := ⟨_, rfl⟩
    rw [hab] at hcase
    obtain ⟨g0, hg0⟩ : ∃ z, E0.number = z := ⟨_, rfl⟩
    obtain ⟨g1, hg1⟩ : ∃ z, E0.kind = z := ⟨_, rfl⟩
    obtain ⟨g3, hg3⟩ : ∃ z, E0.tag = z := ⟨_, rfl⟩
    obtain ⟨g4, hg4⟩ : ∃ z, E0.term = z := ⟨_, rfl⟩
    obtain ⟨g5, hg5⟩ : ∃ z, E0.pos = z := ⟨_, rfl⟩
    rw [hg0] at p0
    rw [hg1] at p1
    rw [hg3] at p3
    rw [hg4] at p4
    rw [hg5] at p5
    have hsame : ∀ wy, Ext w1 wy → Calls Tryz.prog 73 #[.agg #[.int .i64 g0, .int .i64 g1, .slice a0 n0 k0, .int .i64 g3, .int .i64 g4, .int .i64 g5], .agg #[.int .i64 ((i : Int) + 1), .int .i64 f1, .slice ta tn tc, .int .i64 f3, .int .i64 f4, .int .i64 f5]] wy fun x w' => x = .returned (.bool ab) ∧ Ext wy w' := by
      intro wy hl
      have h1 : IsEnt wy (.agg #[.int .i64 g0, .int .i64 g1, .slice a0 n0 k0, .int .i64 g3, .int .i64 g4, .int .i64 g5]) E0 := ⟨_, by unfold entV; rw [hg0, hg1, hg3, hg4, hg5], ht0.below hl⟩
      have := same5_any _ _ E0 e wy h1 (HV.out wy (TwS.ext (HE1.out.trans hl)))
      rw [hab] at this
      exact this
    have HSAME := Lib.hid hsame
    have HCASE := Lib.hid hcase
    have HX3 := Lib.hid (And.intro h3 (And.intro p0 (And.intro p1 (And.intro p2 (And.intro p3 (And.intro p4 p5))))))
    have hl : decide (((i : Int) + 1) ≤ (n : Int)) = true := by simp; omega
    have hl2 : (i : Int) + 1 ≤ (n : Int) := by omega
    have HWI := Lib.hid (show IntKind.i64.wrap (i : Int) = (i : Int) from IntWalk.i64_in _ (by omega))
    clear hcase hsame hg0 hg1 hg3 hg4 hg5 hab hE0 h3 p0 p1 p2 p3 p4 p5 ht0 hc hel
    go_wp2_with fail
    refine wp_region_facts (by kernel_rfl) Ext (fun iop v w => match iop with
        | 0 => v = .pointer (some ⟨x, 0, none⟩)
        | 1 => v = .pointer (some ⟨x, 0, none⟩)
        | 2 => v = .pointer (some ⟨x, 3, none⟩)
        | 3 => v = .slice (some ⟨b, off, none⟩) n cap
        | 4 => v = .pointer (some ⟨q, 0, none⟩)
        | 5 => v = .int .i64 ((i : Int) + 1)
        | 6 => v = .int .i64 (i : Int)
        | 7 => v = .pointer (some ⟨b, off + i * 6, none⟩)
        | 8 => v = .agg #[.int .i64 g0, .int .i64 g1, .slice a0 n0 k0, .int .i64 g3, .int .i64 g4, .int .i64 g5]
        | 9 => v = .agg #[.int .i64 ((i : Int) + 1), .int .i64 f1, .slice ta tn tc, .int .i64 f3, .int .i64 f4, .int .i64 f5]
        | 10 => v = .bool ab
        | _ => v = .bool (!ab)
        ) (by kernel_rfl) (fun _ _ _ h k => Ext.trans h k) (fun a => Ext.refl a) (Ext.drew _) ?_ ?_ ?_
    · intro iop v wa wb hF hL
      iterate 11 (rcases iop with _ | iop; exact hF)
      exact hF
    · refine Obls.cons ?_ (Obls.cons ?_ (Obls.cons ?_ (Obls.cons ?_ (Obls.cons ?_ (Obls.cons ?_ (Obls.cons ?_ (Obls.cons ?_ (Obls.cons ?_ (Obls.cons ?_ (Obls.cons ?_ (Obls.cons ?_ (Obls.nil))))))))))))
      · intro ev wy hp hl hk hd
        have e0 : ev (.tmp 0) = .pointer (some ⟨x, 0, none⟩) := hk 0 (by decide)
        clear hk hd
        exact Yield.mv rfl ⟨Ext.refl _, e0⟩
      · intro ev wy hp hl hk hd
        have e18 : ev (.tmp 18) = .pointer (some ⟨x, 0, none⟩) := hk 18 (by decide)
        clear hk hd
        exact Yield.op (v := .pointer (some ⟨x, 0, none⟩)) (w' := wy) (by simp [execOp, go_sem, e18]) ⟨Ext.refl _, rfl⟩
      · intro ev wy hp hl hk hd
        have e19 : ev (.tmp 19) = .pointer (some ⟨x, 0, none⟩) := hk 19 (by decide)
        clear hk hd
        exact Yield.op (v := .pointer (some ⟨x, 3, none⟩)) (w' := wy) (by simp [execOp, go_sem, e19]) ⟨Ext.refl _, rfl⟩
      · intro ev wy hp hl hk hd
        have e20 : ev (.tmp 20) = .pointer (some ⟨x, 3, none⟩) := hk 20 (by decide)
        clear hk hd
        exact Yield.load rfl e20 (by simp [go_sem, cellExt hl HX3.out.1]) ⟨Ext.refl _, rfl⟩
      · intro ev wy hp hl hk hd
        have e3 : ev (.tmp 3) = .pointer (some ⟨q, 0, none⟩) := hk 3 (by decide)
        clear hk hd
        exact Yield.op (v := .pointer (some ⟨q, 0, none⟩)) (w' := wy) (by simp [execOp, go_sem, e3]) ⟨Ext.refl _, rfl⟩
      · intro ev wy hp hl hk hd
        have e22 : ev (.tmp 22) = .pointer (some ⟨q, 0, none⟩) := hk 22 (by decide)
        clear hk hd
        exact Yield.load rfl e22 (by simp [go_sem, cell_of_heap (heap_ext HX1.out hl) 0]) ⟨Ext.refl _, rfl⟩
      · intro ev wy hp hl hk hd
        have e23 : ev (.tmp 23) = .int .i64 ((i : Int) + 1) := hk 23 (by decide)
        clear hk hd
        exact Yield.op (w' := wy) (by simp [execOp, go_sem, hp.const, e23, HWI.out]) ⟨Ext.refl _, rfl⟩
      · intro ev wy hp hl hk hd
        have e21 : ev (.tmp 21) = .slice (some ⟨b, off, none⟩) n cap := hk 21 (by decide)
        have e24 : ev (.tmp 24) = .int .i64 (i : Int) := hk 24 (by decide)
        clear hk hd
        exact Yield.op (w' := wy) (by simp [execOp, go_sem, e21, e24]; omega) ⟨Ext.refl _, rfl⟩
      · intro ev wy hp hl hk hd
        have e25 : ev (.tmp 25) = .pointer (some ⟨b, off + i * 6, none⟩) := hk 25 (by decide)
        clear hk hd
        exact Yield.load rfl e25 (by simp [go_sem, cellExt hl HX3.out.2.1, cellExt hl HX3.out.2.2.1, cellExt hl HX3.out.2.2.2.1, cellExt hl HX3.out.2.2.2.2.1, cellExt hl HX3.out.2.2.2.2.2.1, cellExt hl HX3.out.2.2.2.2.2.2]) ⟨Ext.refl _, rfl⟩
      · intro ev wy hp hl hk hd
        have e3 : ev (.tmp 3) = .pointer (some ⟨q, 0, none⟩) := hk 3 (by decide)
        clear hk hd
        have hxy := heap_ext HX1.out hl
        exact Yield.load rfl e3 (by simp [go_sem, cell_of_heap hxy 0, cell_of_heap hxy 1, cell_of_heap hxy 2, cell_of_heap hxy 3, cell_of_heap hxy 4, cell_of_heap hxy 5]) ⟨Ext.refl _, rfl⟩
      · intro ev wy hp hl hk hd
        have e26 : ev (.tmp 26) = .agg #[.int .i64 g0, .int .i64 g1, .slice a0 n0 k0, .int .i64 g3, .int .i64 g4, .int .i64 g5] := hk 26 (by decide)
        have e27 : ev (.tmp 27) = .agg #[.int .i64 ((i : Int) + 1), .int .i64 f1, .slice ta tn tc, .int .i64 f3, .int .i64 f4, .int .i64 f5] := hk 27 (by decide)
        clear hk hd
        refine Yield.call rfl hp Tryz.func73 rfl (by kernel_rfl) ?_
        simp only [List.map_toArray, List.map_cons, List.map_nil, e26, e27]
        exact ((HSAME.out wy hl)).mono fun _ _ ⟨he, hb⟩ => ⟨_, he, hb, by first | rfl | simp⟩
      · intro ev wy hp hl hk hd
        have e28 : ev (.tmp 28) = .bool ab := hk 28 (by decide)
        clear hk hd
        exact Yield.op (v := .bool (!ab)) (w' := wy) (by simp [execOp, go_sem, e28]) ⟨Ext.refl _, rfl⟩
    · intro vals wz hz hv
      have g18 : vals 0 = .pointer (some ⟨x, 0, none⟩) := hv 0 (by decide)
      have g19 : vals 1 = .pointer (some ⟨x, 0, none⟩) := hv 1 (by decide)
      have g20 : vals 2 = .pointer (some ⟨x, 3, none⟩) := hv 2 (by decide)
      have g21 : vals 3 = .slice (some ⟨b, off, none⟩) n cap := hv 3 (by decide)
      have g22 : vals 4 = .pointer (some ⟨q, 0, none⟩) := hv 4 (by decide)
      have g23 : vals 5 = .int .i64 ((i : Int) + 1) := hv 5 (by decide)
      have g24 : vals 6 = .int .i64 (i : Int) := hv 6 (by decide)
      have g25 : vals 7 = .pointer (some ⟨b, off + i * 6, none⟩) := hv 7 (by decide)
      have g26 : vals 8 = .agg #[.int .i64 g0, .int .i64 g1, .slice a0 n0 k0, .int .i64 g3, .int .i64 g4, .int .i64 g5] := hv 8 (by decide)
      have g27 : vals 9 = .agg #[.int .i64 ((i : Int) + 1), .int .i64 f1, .slice ta tn tc, .int .i64 f3, .int .i64 f4, .int .i64 f5] := hv 9 (by decide)
      have g28 : vals 10 = .bool ab := hv 10 (by decide)
      have g29 : vals 11 = .bool (!ab) := hv 11 (by decide)
      clear hv
      simp only [putAll, Act.put, List.setIfInBounds_toArray, List.set_cons_zero, List.set_cons_succ, g18, g19, g20, g21, g22, g23, g24, g25, g26, g27, g28, g29]
      clear g18
      clear g19
      clear g20
      clear g21
      clear g22
      clear g23
      clear g24
      clear g25
      clear g26
      clear g27
      clear g28
      clear g29
      have HZ := Lib.hid (HE1.out.trans hz)
      have HLV := Lib.hid (LeavesRep.refl HR1.out hz)
      clear hz c0
      cases ab with
      | true =>
        go_wp2_with fail
        go_ret
        have hc : r.ocase e = .there := by simpa using HCASE.out
        refine ⟨by rw [Rep.orderErr_is hc]; rfl, ?_⟩
        rw [Rep.order_is hc (by simp)]
        exact LeavesRep.since HE1.out HLV.out
      | false =>
        go_wp2_with fail
        go_ret
        have hc : r.ocase e = .other := by simpa using HCASE.out
        refine ⟨by rw [Rep.orderErr_is hc]; rfl, ?_⟩
        rw [Rep.order_is hc (by simp)]
        exact LeavesRep.since HE1.out HLV.out
  · have hl : decide (((i : Int) + 1) ≤ (n : Int)) = false := by simp; omega
    have hl2 : ¬ (i : Int) + 1 ≤ (n : Int) := by omega
    have h4 : w1.cell? ⟨x, 4, none⟩ = some (.bool r.w.sealed) := cell_of_heap HR1.out.at'.heap 4
    obtain ⟨sb, hsb⟩ : ∃ z, r.w.sealed = z := ⟨_, rfl⟩
    rw [hsb] at h4
    have HSB := Lib.hid hsb
    have hnle : ¬ e.number ≤ (r.w.l.length : Int) := by rw [HNI.out.1, HNI.out.2]; omega
    have HNLE := Lib.hid hnle
    clear hsb hnle
    cases sb with
    | true =>
      have hc : r.ocase e = .shut := by
        unfold Rep.Rp.ocase Rep.Rp.len
        rw [if_neg HNLE.out, if_pos HSB.out]
      have HC := Lib.hid hc
      clear hc
      go_wp2_with fail
      go_ret
      refine ⟨by rw [Rep.orderErr_is HC.out]; rfl, ?_⟩
      rw [Rep.order_is HC.out (by simp)]
      exact LeavesRep.since HE1.out (LeavesRep.refl HR1.out (Ext.refl _))
    | false =>
      by_cases hgap : n + 1 < i + 1
      · have hc : r.ocase e = .gap := by
          unfold Rep.Rp.ocase Rep.Rp.len
          rw [if_neg HNLE.out, if_neg (by rw [HSB.out]; simp), if_pos (by rw [HNI.out.1, HNI.out.2]; omega)]
        have HC := Lib.hid hc
        have hg1 : decide ((n : Int) + 1 < (i : Int) + 1) = true := by simp; omega
        have hg2 : (n : Int) + 1 < (i : Int) + 1 := by omega
        clear hc
        go_wp2_with fail
        go_ret
        refine ⟨by rw [Rep.orderErr_is HC.out]; rfl, ?_⟩
        rw [Rep.order_is HC.out (by simp)]
        exact LeavesRep.since HE1.out (LeavesRep.refl HR1.out (Ext.refl _))
      · obtain rfl : i = n := by omega
        have hg1 : decide ((i : Int) + 1 < (i : Int) + 1) = false := by simp
        have hEd := Ext.drew w1
        have hxd := heap_ext HX1.out hEd
        have x0 : w1.drew.cell? ⟨q, 0, none⟩ = some (.int .i64 ((i : Int) + 1)) := cell_of_heap hxd 0
        have x1 : w1.drew.cell? ⟨q, 1, none⟩ = some (.int .i64 f1) := cell_of_heap hxd 1
        have x2 : w1.drew.cell? ⟨q, 2, none⟩ = some (.slice ta tn tc) := cell_of_heap hxd 2
        have x3 : w1.drew.cell? ⟨q, 3, none⟩ = some (.int .i64 f3) := cell_of_heap hxd 3
        have x4 : w1.drew.cell? ⟨q, 4, none⟩ = some (.int .i64 f4) := cell_of_heap hxd 4
        have x5 : w1.drew.cell? ⟨q, 5, none⟩ = some (.int .i64 f5) := cell_of_heap hxd 5
        obtain ⟨la, lc, hev, hlc, hlm, _⟩ := HR1.out.at'.open
        have hesl : es.length = i := by rw [HR1.out.lenR]; exact HNI.out.1
        rw [hesl] at hev hlc
        subst hev
        have hcell : ∀ w9, Ext w1 w9 → w9.cell? ⟨x, 3, none⟩ = some (.slice la i lc) := fun w9 hE => cell_of_heap (heap_ext HR1.out.at'.heap hE) 3
        have k3a := hcell w1.drew hEd
        have hown : Calls Tryz.prog 66 #[.agg #[.int .i64 ((i : Int) + 1), .int .i64 f1, .slice ta tn tc, .int .i64 f3, .int .i64 f4, .int .i64 f5]] w1.drew fun e' w' => ∃ a9 n9 c9, e' = .returned (.agg #[.int .i64 ((i : Int) + 1), .int .i64 f1, .slice a9 n9 c9, .int .i64 f3, .int .i64 f4, .int .i64 f5]) ∧ RowN w1.heap.size w' (.slice a9 n9 c9) e.cut ∧ Ext w1 w' := by
          have h1 := own11_any (.slice ta tn tc) e w1.drew (HCI.out w1.drew (TwS.ext (HE1.out.trans hEd))) (Nat.le_trans (Ent.cut_small HR.out) (by omega))
          unfold entV at h1
          rw [HNI.out.2, HFF.out.1, HFF.out.2.1, HFF.out.2.2.1, HFF.out.2.2.2] at h1
          refine h1.mono ?_
          rintro e' w' ⟨t9, rfl, hf, hE⟩
          obtain ⟨a9, n9, c9, rfl⟩ := ownSlice hf.choose_spec.choose_spec.2
          exact ⟨a9, n9, c9, rfl, hf, hEd.trans hE⟩
        have hn1 : i + 1 ≤ maxLen := by unfold maxLen; omega
        have hn2 : (i + 1) * 64 ≤ 140737488355328 := by omega
        have hrow9 : ∀ w9, Ext w1 w9 → w9.ownsRow B 77 6 (.slice la i lc) i (entFlat es) := fun w9 hE => by have := rowExt HR1.out.at'.row hE; rw [hesl] at this; exact this
        have hB1 : B ≤ w1.heap.size := HR1.out.base
        have h1y : ∀ a n c, ∀ y ∈ [Value.int .i64 ((i : Int) + 1), .int .i64 f1, .slice a n c, .int .i64 f3, .int .i64 f4, .int .i64 f5], y.oneCell' = true := fun a n c => by simp [Value.oneCell']
        have HOWN := Lib.hid hown
        have HROW := Lib.hid hrow9
        have HONE := Lib.hid h1y
        have HCELL := Lib.hid hcell
        have HESL := Lib.hid hesl
        have te := tE
        clear hown hrow9 h1y hcell hxd hesl hEd hi40
        go_wp2_with fail
        go_region_law (first
          | (go_simp; go_at_call 66; refine HOWN.out.mono ?_; rintro e' w9 ⟨a9, n9, c9, rfl, hf9, hE9⟩; have hEa : Ext w1 (w9.alloc (.cells #[.int .i64 ((i : Int) + 1), .int .i64 f1, .slice a9 n9 c9, .int .i64 f3, .int .i64 f4, .int .i64 f5] 77)) := hE9.trans (Ext.alloc _ _); have k3b := HCELL.out w9 hE9; have k3c := HCELL.out _ hEa; have hr9 := Lib.hid (HROW.out _ hEa); have hs9 := Lib.hid (SlN.one6 (T := 77) w9 (.slice a9 n9 c9) ⟨(i : Int) + 1, f1, [], f3, f4, f5⟩); have hb9 := Nat.le_trans hB1 hEa.size; have hEA := Lib.hid hEa; clear hEa)
          | (rw [if_pos (by rfl)]; refine wp_appN_keep (.tmp 44) (.tmp 47) te rfl rfl rfl hr9.out hs9.out (by omega) (HONE.out _ _ _) hn1 hn2 hb9 ?_; intro v10 w10 h10; obtain ⟨a10, n10, c10, rfl⟩ := ownSlice h10.out.1))
        all_goals
          have h11 : w10.ownsRow B 77 6 (.slice a10 n10 c10) (i + 1) (entFlat es ++ entFlat [(.slice a9 n9 c9, ⟨(i : Int) + 1, f1, [], f3, f4, f5⟩)]) ∧ (w9.alloc (.cells #[.int .i64 ((i : Int) + 1), .int .i64 f1, .slice a9 n9 c9, .int .i64 f3, .int .i64 f4, .int .i64 f5] 77)).grownBy w10 (Value.slice la i lc).ownBlock ∧ (∀ k, (Value.slice a10 n10 c10).ownBlock = some k → (Value.slice la i lc).ownBlock = some k ∨ (w9.alloc (.cells #[.int .i64 ((i : Int) + 1), .int .i64 f1, .slice a9 n9 c9, .int .i64 f3, .int .i64 f4, .int .i64 f5] 77)).heap.size ≤ k) ∧ w10.ownsRow B 77 6 (.slice la i lc) i (entFlat es) := h10.out
          have hI10 := (HR1.out.ext hEA.out).grown h11.2.1 (by rw [HESL.out]; exact h11.2.2.2)
          have hE01 := HE1.out.trans hEA.out
          have hT10 : TwS S w w10 := (TwS.ext hE01).trans (TwS.grown h11.2.1 (fun k e => HR1.out.ue k e))
          have hcut : RowN w.heap.size w10 (.slice a9 n9 c9) e.cut := ((hf9.ext (Ext.alloc _ _)).grown h11.2.1 hr9.out).lower HE1.out.size
          have htag : TagI w10 vp (.slice a9 n9 c9) e.cut := hcut.tag HLT.out.2.1
          have hflat : entFlat es ++ entFlat [(.slice a9 n9 c9, ⟨(i : Int) + 1, f1, [], f3, f4, f5⟩)] = entFlat (es ++ [(.slice a9 n9 c9, e)]) := by
            rw [entFlat_append]
            unfold entFlat
            simp [HNI.out.2, HFF.out.1, HFF.out.2.1, HFF.out.2.2.1, HFF.out.2.2.2]
          have hlong : w10.ownsRow B 77 6 (.slice a10 n10 c10) (es ++ [(Value.slice a9 n9 c9, e)]).length (entFlat (es ++ [(Value.slice a9 n9 c9, e)])) := by
            rw [← hflat, List.length_append, HESL.out]
            exact h11.1
          have hents : Ents w10 (.slice a10 n10 c10) (r.w.l ++ [e]) := by
            have := ents_of_flat (ps := es ++ [(Value.slice a9 n9 c9, e)]) (fun q hq => by
              rcases List.mem_append.1 hq with hq | hq
              · exact hI10.at'.ints q hq
              · obtain rfl := List.mem_singleton.1 hq
                exact hcut.row.ints) (SlN.ofOwn hlong)
            rw [List.map_append, hI10.at'.ents] at this
            exact this
          have hn10 : n10 = i + 1 := by have := ownLen h11.1; exact this
          subst hn10
          have hnew : ∀ k, (Value.slice a10 (i + 1) c10).ownBlock = some k → (Value.slice la i lc).ownBlock = some k ∨ w.heap.size ≤ k := fun k hk => (h11.2.2.1 k hk).elim .inl (fun e => .inr (Nat.le_trans hE01.size e))
          have hq10 : w10.heap[q]? = some (.cells #[.int .i64 ((i : Int) + 1), .int .i64 f1, .slice ta tn tc, .int .i64 f3, .int .i64 f4, .int .i64 f5] 77 (0, 0)) := by
            have hxa := heap_ext HX1.out hEA.out
            exact (h11.2.1.block q (Array.getElem?_eq_some_iff.1 hxa).1 (fun e => by have := HLT.out.1 q e.symm; rw [HW1.out.2] at this; omega)).trans hxa
          have HI10 := Lib.hid (And.intro hI10 hT10)
          have HNEW := Lib.hid (And.intro hlong (And.intro hnew (And.intro hcut htag)))
          have HQ10 := Lib.hid hq10
          have HCH := Lib.hid (chain5_any _ _ w10 hents)
          have hch : Ent.chain (r.w.l ++ [e]) = if Ent.follows r.w.l e = true then i + 1 else i := by
            have h1 : Ent.chain r.w.l = r.w.l.length := hI10.ok.chain
            rw [Ent.chain_snoc, if_pos h1, HNI.out.1]
          have hcase := Rep.follows_gap (r := r) (e := e) (fun h => by have := HNLE.out; omega) HSB.out (by rw [HNI.out.1, HNI.out.2]; omega)
          have HCASE := Lib.hid hcase
          have HCHN := Lib.hid hch
          clear h10 h11 hI10 hE01 hT10 hcut htag hflat hlong hents hnew hq10 hch hcase x0 x1 x2 x3 x4 x5 k3a k3b k3c hr9 hs9 hf9 hE9 hEA hb9
          go_wp2_with fail
          refine HCH.out.mono ?_
          rintro e' w11 ⟨rfl, hE11⟩
          rw [HCHN.out]
          have HI11 := Lib.hid (And.intro (HI10.out.1.ext hE11) (HI10.out.2.trans (TwS.ext hE11)))
          have HQ11 := Lib.hid (heap_ext HQ10.out hE11)
          have HN11 := Lib.hid (And.intro (rowExt HNEW.out.1 hE11) (And.intro (HNEW.out.2.2.1.ext hE11) (HNEW.out.2.2.2.ext hE11)))
          have HLR11 := Lib.hid (show LeavesRep B S x w r w11 from ⟨⟨p, va, vp, _, es, HI11.out.1.wider fun k _ hk => .inl hk⟩, HI11.out.2⟩)
          clear hE11
          cases hfo : Ent.follows r.w.l e with
          | false =>
            have hc : r.ocase e = .other := by rw [HCASE.out, hfo]; rfl
            have HC := Lib.hid hc
            clear hc hfo
            go_wp2_with fail
            go_ret
            refine ⟨by rw [Rep.orderErr_is HC.out]; rfl, ?_⟩
            rw [Rep.order_is HC.out (by simp)]
            exact HLR11.out
          | true =>
            have hc : r.ocase e = .next := by rw [HCASE.out, hfo]; rfl
            have HC := Lib.hid hc
            have x0 := cell_of_heap HQ11.out 0
            have x1 := cell_of_heap HQ11.out 1
            have x2 := cell_of_heap HQ11.out 2
            have x3 := cell_of_heap HQ11.out 3
            have x4 := cell_of_heap HQ11.out 4
            have x5 := cell_of_heap HQ11.out 5
            simp at x0 x1 x2 x3 x4 x5
            have HEN := Lib.hid (encode5_own _ e w11 (HV.out w11 HI11.out.2) HR.out)
            clear hc hfo
            go_wp2_with fail
            refine HEN.out.mono ?_
            rintro e' w12 ⟨u, rfl, ho12, hE12⟩
            obtain ⟨ua, un, uc, rfl⟩ := ownSlice ho12
            have HI12 := Lib.hid (And.intro (HI11.out.1.ext hE12) (HI11.out.2.trans (TwS.ext hE12)))
            have HN12 := Lib.hid (And.intro (rowExt HN11.out.1 hE12) (And.intro (HN11.out.2.1.ext hE12) (HN11.out.2.2.ext hE12)))
            have hp2 : w12.cell? ⟨x, 2, none⟩ = some (.pointer (some ⟨p, 0, none⟩)) := cell_of_heap HI12.out.1.at'.heap 2
            have hbs : Bytes w12 (.slice ua un uc) (Ent.enc e) := Sl.ofOwn ho12
            have HAP := Lib.hid (append8_any HI12.out.1.sto HI12.out.1.base _ (Ent.enc e) hbs (Nat.le_trans (Ent.enc_le HR.out) (by omega)))
            clear x0 x1 x2 x3 x4 x5 hE12 ho12 hbs
            go_wp2_with fail
            refine HAP.out.mono ?_
            unfold GivesAppend
            rintro e' w13 ⟨rfl, va', vp', hA⟩
            obtain ⟨y, hy⟩ : ∃ z, r.s.appendErr (Ent.enc e) = z := ⟨_, rfl⟩
            rw [hy]
            have HA := Lib.hid hA
            have HY := Lib.hid hy
            have herr : r.orderErr e = y := by rw [Rep.orderErr_is HC.out]; exact hy
            have HERR := Lib.hid herr
            obtain ⟨aw, haw⟩ : ∃ z : Int, ((r.s.appendAt (Ent.enc e) : Nat) : Int) = z := ⟨_, rfl⟩
            rw [haw]
            clear hA hy herr hp2 haw
            by_cases hy0 : y = 0
            · subst hy0
              have hat := HI12.out.1.at'.app HI12.out.1.sto HA.out
              have g3 := cell_of_heap hat.heap 3
              have fr3 := frozen_of_heap hat.heap 3
              have HFIN := Lib.hid (HI12.out.1.more HI12.out.2 HA.out HC.out HY.out HN12.out.1 HNEW.out.2.1 HN12.out.2.1 HN12.out.2.2 HLT.out.2.2)
              clear hat
              go_wp2_with fail
              go_ret
              exact ⟨by rw [HERR.out]; rfl, HFIN.out⟩
            · have hsame : r.s.append (Ent.enc e) = r.s := Seg.same_w (by rw [HY.out]; exact hy0)
              have hyb : (y == 0) = false := by simpa using hy0
              have hr0 : r.order e = r := by
                unfold Rep.Rp.order
                rw [HC.out]
                simp only
                rw [if_neg (by rw [HY.out]; exact hy0)]
              have hsto := HA.out.sto
              rw [hsame] at hsto
              have hat := HI12.out.1.at'.app HI12.out.1.sto HA.out
              have hT13 := HI12.out.2.trans (HI12.out.1.appended HA.out)
              have HFIN := Lib.hid (show LeavesRep B S x w (r.order e) w13 by
                rw [hr0]
                have h := HI12.out.1
                refine ⟨⟨p, va', vp', _, es, h.x1, .inl h.x2, h.p1, .inl h.p2, fun k hk => ?_, fun k hk => ?_, fun k hk => .inl (h.ue k hk), fun q hq k hk => .inl (h.tags q hq k hk), hsto, hat, h.ok⟩, hT13⟩
                · rcases HA.out.newA with e | e | e
                  · exact .inl (h.ua k (e ▸ hk))
                  · exact .inl (h.ua k (e ▸ hk))
                  · exact .inr ⟨Nat.le_trans HI12.out.2.size (e k hk), (HA.out.sto.all.lt k hk).2⟩
                · rcases HA.out.newP with e | e | e
                  · exact .inl (h.up k (e ▸ hk))
                  · exact .inl (h.up k (e ▸ hk))
                  · exact .inr ⟨Nat.le_trans HI12.out.2.size (e k hk), (HA.out.sto.places.lt k hk).2⟩)
              clear hsame hr0 hsto hat hT13
              go_wp2_with fail
              go_ret
              exact ⟨by rw [HERR.out]; rfl, HFIN.out⟩
end Go.Proofs.YtckdofhcifdpmaaGreat
