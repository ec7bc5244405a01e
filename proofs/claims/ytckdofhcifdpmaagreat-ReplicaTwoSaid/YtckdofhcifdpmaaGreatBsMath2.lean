/-
  Merged: Layer 8, mathematics: the frame with which bytes begin, as the program looks for it; Layer 11, mathematics: a replica is its store and what its frames say; Layer 11, mathematics: the statements' example; Layer 11, mathematics: the same message twice; Layer 9, mathematics: what a row of frames says: records, how many are trimmed, and whether one is neither; Layer 9, mathematics: a segment is its store, and how many records were safe; Layer 6, mathematics: bytes as configurations, read part by part, each up to some bound: whatever the bounds are (great enough), the same are read.
-/
import Derived.Test.YtckdofhcifdpmaaGreatBsEnt
import Derived.Test.YtckdofhcifdpmaaGreatBsMath

set_option linter.unusedSimpArgs false
set_option linter.unusedVariables false

/- Layer 8, mathematics: the frame with which bytes begin, as the program looks for it; places; a store as frames. No program. -/
namespace Go.Proofs.YtckdofhcifdpmaaGreat.Page
set_option linter.unusedSimpArgs false
set_option linter.unusedVariables false

/-- The number with which bytes begin, of which nine are looked at. -/
def peek (b : List UInt8) : Pack.St × Nat := Pack.St.num ⟨b.take (min b.length 9), 0⟩ 65536
def headOf (b : List UInt8) : Nat := min b.length 9 - (peek b).1.left.length
def sizeOf (b : List UInt8) : Nat := headOf b + (peek b).2 + 4
theorem peek_ok {b : List UInt8} (h : (peek b).1.err = 0) : (∃ r, b = Pack.num (peek b).2 ++ r) ∧ headOf b = (Pack.num (peek b).2).length := by
  have h1 := Rec.num_left h
  simp only at h1
  have hm : (b.take (min b.length 9)).length = min b.length 9 := by simp
  have h2 : min b.length 9 = (Pack.num (peek b).2).length + (peek b).1.left.length := by
    rw [← hm, h1, List.length_append]
    rfl
  refine ⟨⟨(peek b).1.left ++ b.drop (min b.length 9), ?_⟩, by unfold headOf; omega⟩
  rw [← List.append_assoc]
  conv => lhs; rw [← List.take_append_drop (min b.length 9) b, h1]
  rfl
theorem peek_le (b : List UInt8) : (peek b).2 ≤ 65536 := by
  have := num_most ⟨b.take (min b.length 9), 0⟩ 65536 (by omega)
  unfold peek
  omega
theorem peek_left (b : List UInt8) : (peek b).1.left.length ≤ min b.length 9 := by
  unfold peek Pack.St.num Pack.St.fail
  split
  · simp
  · split
    · simp
    · split
      · simp
      · simp only [List.length_drop, List.length_take]
        omega
theorem peek_frame {x : List UInt8} (h : small x) (r : List UInt8) : (peek (frame x ++ r)).1.err = 0 ∧ (peek (frame x ++ r)).2 = x.length := by
  unfold small at h
  have h9 : (Pack.num x.length).length ≤ 9 := Pack.num_nine (by omega)
  have e : frame x ++ r = Pack.num x.length ++ (x ++ Crc.low (Crc.sum (textOf x)) ++ r) := by unfold frame textOf; simp
  have e2 : (frame x ++ r).take (min (frame x ++ r).length 9) = Pack.num x.length ++ (x ++ Crc.low (Crc.sum (textOf x)) ++ r).take (min (frame x ++ r).length 9 - (Pack.num x.length).length) := by
    rw [e, List.take_append, List.take_of_length_le]
    simp only [List.length_append]
    omega
  unfold peek
  rw [e2, Pack.read_num _ _ _ _ (by omega) (by omega)]
  exact ⟨rfl, rfl⟩
theorem first_wrong {b : List UInt8} (h : (peek b).1.err ≠ 0) : first b = none := by
  cases hf : first b with
  | none => rfl
  | some x =>
    obtain ⟨h1, r, rfl⟩ := first_iff.1 hf
    exact absurd (peek_frame h1 r).1 h
theorem frame_size {x : List UInt8} (h : small x) (r : List UInt8) : headOf (frame x ++ r) = (Pack.num x.length).length ∧ sizeOf (frame x ++ r) = (frame x).length := by
  obtain ⟨h1, h2⟩ := peek_frame h r
  have h3 := (peek_ok h1).2
  rw [h2] at h3
  refine ⟨h3, ?_⟩
  unfold sizeOf
  rw [h3, h2, frame_length]
theorem first_short {b : List UInt8} (h : b.length < sizeOf b) : first b = none := by
  cases hf : first b with
  | none => rfl
  | some x =>
    obtain ⟨h1, r, rfl⟩ := first_iff.1 hf
    rw [(frame_size h1 r).2, List.length_append] at h
    omega
theorem first_size {b x : List UInt8} (h : first b = some x) : sizeOf b = (frame x).length ∧ headOf b = (Pack.num x.length).length ∧ small x ∧ (frame x).length ≤ b.length := by
  obtain ⟨h1, r, rfl⟩ := first_iff.1 h
  exact ⟨(frame_size h1 r).2, (frame_size h1 r).1, h1, by simp⟩
theorem cut_len {c W : List UInt8} (h : Crc.cutOf c = some W) : W.length + 4 = c.length := by
  unfold Crc.cutOf at h
  split at h
  · cases h
  · split at h
    · injection h with h
      rw [← h, List.length_take]
      omega
    · cases h
theorem cut_frame {x : List UInt8} : Crc.cutOf (frame x) = some (textOf x) := Crc.cut_put _
theorem first_cutOf {b : List UInt8} (h0 : (peek b).1.err = 0) (h : sizeOf b ≤ b.length) : first b = (Crc.cutOf (b.take (sizeOf b))).map (List.drop (headOf b)) := by
  cases hf : first b with
  | some x =>
    obtain ⟨h1, r, rfl⟩ := first_iff.1 hf
    rw [(frame_size h1 r).1, (frame_size h1 r).2, List.take_left, cut_frame]
    simp [textOf]
  | none =>
    obtain ⟨⟨r, hb⟩, hh⟩ := peek_ok h0
    cases hc : Crc.cutOf (b.take (sizeOf b)) with
    | none => rfl
    | some W =>
      exfalso
      generalize hn : (peek b).2 = n at *
      have hle := peek_le b
      rw [hn] at hle
      have hsz : sizeOf b = (Pack.num n).length + n + 4 := by unfold sizeOf; rw [hh, hn]
      have hrl : n + 4 ≤ r.length := by
        rw [hsz, hb, List.length_append] at h
        omega
      have ht : b.take (sizeOf b) = Pack.num n ++ r.take (n + 4) := by
        rw [hsz, hb, List.take_append, List.take_of_length_le (by omega)]
        congr 2
        omega
      have htl : (b.take (sizeOf b)).length = (Pack.num n).length + n + 4 := by rw [List.length_take]; omega
      have hxn : (r.take n).length = n := by rw [List.length_take]; omega
      have h4 : (b.take (sizeOf b)).take ((b.take (sizeOf b)).length - 4) = textOf (r.take n) := by
        rw [htl, ht]
        unfold textOf
        rw [hxn, List.take_append, List.take_of_length_le (by omega), List.take_take]
        congr 2
        omega
      unfold Crc.cutOf at hc
      split at hc
      · cases hc
      · rw [h4] at hc
        split at hc
        · rename_i hq
          have : first b = some (r.take n) := first_iff.2 ⟨by unfold small; omega, by unfold frame; rw [hq]; exact List.take_prefix _ _⟩
          rw [this] at hf
          cases hf
        · cases hc

/-- Where the frames begin. -/
def offs (l : List (List UInt8)) : List Int := (List.range l.length).map fun i => (((bytes (l.take i)).length : Nat) : Int)
@[simp] theorem offs_length (l : List (List UInt8)) : (offs l).length = l.length := by simp [offs]
theorem offs_get (l : List (List UInt8)) (i : Nat) (h : i < (offs l).length) : (offs l)[i] = (((bytes (l.take i)).length : Nat) : Int) := by simp [offs]
theorem offs_snoc (l : List (List UInt8)) (x : List UInt8) : offs (l ++ [x]) = offs l ++ [(((bytes l).length : Nat) : Int)] := by
  unfold offs
  rw [List.length_append, List.length_singleton, List.range_succ, List.map_append]
  congr 1
  · refine List.map_congr_left fun i hi => ?_
    rw [List.take_append_of_le_length (by have := List.mem_range.1 hi; omega)]
  · simp
theorem count_le (l : List (List UInt8)) : 5 * l.length ≤ (bytes l).length := by
  induction l with
  | nil => simp
  | cons x l ih =>
    have := frame_pos x
    rw [bytes_cons, List.length_append, List.length_cons]
    omega
/-- Where the frames end. -/
def ends (l : List (List UInt8)) : List Nat := (List.range l.length).map fun i => (bytes (l.take (i + 1))).length
@[simp] theorem ends_length (l : List (List UInt8)) : (ends l).length = l.length := by simp [ends]
theorem ends_snoc (l : List (List UInt8)) (x : List UInt8) : ends (l ++ [x]) = ends l ++ [(bytes l).length + (frame x).length] := by
  unfold ends
  rw [List.length_append, List.length_singleton, List.range_succ, List.map_append]
  congr 1
  · refine List.map_congr_left fun i hi => ?_
    rw [List.take_append_of_le_length (by have := List.mem_range.1 hi; omega)]
  · rw [List.map_singleton, List.take_of_length_le (by simp), bytes_snoc, List.length_append]
theorem scan_more {m : List (List UInt8)} {l r : List UInt8} (hl : l = bytes m ++ r) (hm : ∀ x ∈ m, small x) (h : first r = none) : (scan l).1 = m ∧ (scan l).2 = (bytes m).length := by
  rw [hl, scan_bytes m r hm, scan_none h]
  simp
/-- A store: frames, how many of them are synced, whether it is off. -/
structure St where
  l : List (List UInt8)
  k : Nat
  off : Bool
def St.syn (S : St) : Nat := (bytes (S.l.take S.k)).length
structure St.Ok (S : St) : Prop where
  small : ∀ x ∈ S.l, small x
  le : S.k ≤ S.l.length
  max : (bytes S.l).length ≤ 65536
def fromBytes (b : List UInt8) : St := ⟨(scan (b.take 65536)).1, (scan (b.take 65536)).1.length, false⟩
/-- Is there room for a frame more? -/
def room (S : St) (b : List UInt8) : Bool := decide ((bytes S.l).length + (frame b).length ≤ 65536)
def St.append (S : St) (b : List UInt8) : St := if S.off then S else if room S b then ⟨S.l ++ [b], S.k, S.off⟩ else S
def St.appendErr (S : St) (b : List UInt8) : Int := if S.off then 81 else if room S b then 0 else 80
def St.appendAt (S : St) (b : List UInt8) : Nat := if S.off then 0 else if room S b then (bytes S.l).length else 0
def St.sync (S : St) : St := if S.off then S else ⟨S.l, S.l.length, S.off⟩
theorem St.Ok.append {S : St} (h : S.Ok) (b : List UInt8) : (S.append b).Ok := by
  unfold St.append
  split
  · exact h
  · split
    · rename_i hr
      have hr' := of_decide_eq_true hr
      refine ⟨?_, ?_, ?_⟩
      · intro x hx
        rcases List.mem_append.1 hx with hx | hx
        · exact h.small x hx
        · obtain rfl := List.mem_singleton.1 hx
          unfold Page.small
          have := frame_length x
          omega
      · show S.k ≤ (S.l ++ [b]).length
        have := h.le
        simp
        omega
      · show (bytes (S.l ++ [b])).length ≤ 65536
        rw [bytes_snoc, List.length_append]
        exact hr'
    · exact h
theorem St.Ok.sync {S : St} (h : S.Ok) : S.sync.Ok := by
  unfold St.sync
  split
  · exact h
  · exact ⟨h.small, Nat.le_refl _, h.max⟩
end Go.Proofs.YtckdofhcifdpmaaGreat.Page

/- Layer 11, mathematics: a replica is its store and what its frames say; its calls. No program. -/
namespace Go.Proofs.YtckdofhcifdpmaaGreat.Rep
set_option linter.unusedSimpArgs false
set_option linter.unusedVariables false
open Ent (E)

/-- What frames say. -/
structure What where
  l : List E
  sealed : Bool
def step (w : What) (f : List UInt8) : Option What :=
  if w.sealed = true then none else if f = [0] then some ⟨w.l, true⟩ else match Ent.dec Ent.vd f with
  | none => none
  | some e => if Ent.follows w.l e = true then some ⟨w.l ++ [e], false⟩ else none
def readFrom (o : Option What) (fs : List (List UInt8)) : Option What := fs.foldl (fun o f => o.bind (step · f)) o
def readF (fs : List (List UInt8)) : Option What := readFrom (some ⟨[], false⟩) fs
theorem readFrom_append (o : Option What) (fs gs : List (List UInt8)) : readFrom o (fs ++ gs) = readFrom (readFrom o fs) gs := by
  unfold readFrom
  rw [List.foldl_append]
theorem readF_snoc (fs : List (List UInt8)) (f : List UInt8) : readF (fs ++ [f]) = (readF fs).bind (step · f) := by
  unfold readF
  rw [readFrom_append]
  rfl
theorem step_some {w v : What} {f : List UInt8} (h : step w f = some v) : w.sealed = false ∧ ((f = [0] ∧ v = ⟨w.l, true⟩) ∨ ∃ e, Ent.dec Ent.vd f = some e ∧ Ent.follows w.l e = true ∧ v = ⟨w.l ++ [e], false⟩) := by
  unfold step at h
  split at h
  · cases h
  · next hs =>
    refine ⟨by simpa using hs, ?_⟩
    split at h
    · next hf =>
      injection h with h
      exact .inl ⟨hf, h.symm⟩
    · split at h
      · cases h
      · next e he =>
        split at h
        · next hfo =>
          injection h with h
          exact .inr ⟨e, he, hfo, h.symm⟩
        · cases h
theorem isChain_more {l : List E} {e : E} (h : Ent.isChain l) (hf : Ent.follows l e = true) : Ent.isChain (l ++ [e]) := by
  unfold Ent.isChain at *
  rw [Ent.chain_snoc, if_pos h, if_pos hf]
  simp
/-- Entries are always a chain. -/
theorem readF_chain : ∀ (n : Nat) (fs : List (List UInt8)), fs.length = n → ∀ w, readF fs = some w → Ent.isChain w.l := by
  intro n
  induction n with
  | zero =>
    intro fs hl w h
    rw [List.length_eq_zero_iff.1 hl] at h
    injection h with h
    rw [← h]
    rfl
  | succ n ih =>
    intro fs hl w h
    obtain ⟨gs, f, rfl⟩ : ∃ gs f, fs = gs ++ [f] := ⟨fs.dropLast, fs.getLast (by intro e; rw [e] at hl; cases hl), (List.dropLast_concat_getLast _).symm⟩
    rw [readF_snoc] at h
    obtain ⟨v, hv, hs⟩ := Option.bind_eq_some_iff.1 h
    have hc := ih gs (by simp at hl; omega) v hv
    rcases (step_some hs).2 with ⟨_, rfl⟩ | ⟨e, _, hf, rfl⟩
    · exact hc
    · exact isChain_more hc hf

structure Rp where
  id : Int
  term : Int
  s : Page.St
  w : What
structure Rp.Ok (r : Rp) : Prop where
  sto : r.s.Ok
  is : readF r.s.l = some r.w
theorem Rp.Ok.chain {r : Rp} (h : r.Ok) : Ent.isChain r.w.l := readF_chain _ _ rfl _ h.is
def Rp.len (r : Rp) : Nat := r.w.l.length
inductive OCase where
  | there | other | shut | gap | next
def Rp.ocase (r : Rp) (e : E) : OCase :=
  if e.number ≤ (r.len : Int) then (if Ent.alike (r.w.l.getD (e.number - 1).toNat Msg.ent0) e = true then .there else .other)
  else if r.w.sealed = true then .shut
  else if (r.len : Int) + 1 < e.number then .gap
  else if Ent.follows r.w.l e = true then .next else .other
def Rp.orderErr (r : Rp) (e : E) : Int := match r.ocase e with
  | .there => 0
  | .other => 112
  | .shut => 110
  | .gap => 111
  | .next => r.s.appendErr (Ent.enc e)
def Rp.order (r : Rp) (e : E) : Rp := match r.ocase e with
  | .next => if r.s.appendErr (Ent.enc e) = 0 then ⟨r.id, r.term, r.s.append (Ent.enc e), ⟨r.w.l ++ [e], r.w.sealed⟩⟩ else r
  | _ => r
def Rp.shutErr (r : Rp) : Int := if r.w.sealed = true then 0 else r.s.appendErr [0]
def Rp.shut (r : Rp) : Rp := if r.w.sealed = true then r else if r.s.appendErr [0] = 0 then ⟨r.id, r.term, r.s.append [0], ⟨r.w.l, true⟩⟩ else r
def Rp.sync (r : Rp) : Rp := ⟨r.id, r.term, r.s.sync, r.w⟩
def told (r : Rp) (k : Int) (m : Msg.M) : Msg.M := ⟨k, r.id, m.src, r.term, 0, (r.len : Int), r.w.sealed, Msg.rec0, Msg.ent0, 0, 0, Msg.conf0⟩
def tell (r : Rp) (k : Int) (m : Msg.M) (err : Int) : Rp × Msg.M × Int := if err = 0 then (r.sync, told r k m, 0) else (r, Msg.none0, err)
def Rp.take (r : Rp) (m : Msg.M) : Rp × Msg.M × Int :=
  if m.dst ≠ r.id ∨ m.term ≠ r.term ∨ Msg.right m = false then (r, Msg.none0, 1)
  else if m.kind = 3 then tell (r.order m.ent) 4 m (r.orderErr m.ent)
  else if m.kind = 5 then tell r.shut 6 m r.shutErr
  else (r, Msg.none0, 1)
def Rp.off (r : Rp) (o : Bool) : Rp := ⟨r.id, r.term, ⟨r.s.l, r.s.k, o⟩, r.w⟩
theorem append_ok {S : Page.St} {b : List UInt8} (h : S.appendErr b = 0) : S.off = false ∧ S.append b = ⟨S.l ++ [b], S.k, S.off⟩ := by
  unfold Page.St.appendErr at h
  unfold Page.St.append
  cases ho : S.off with
  | true => rw [ho] at h; cases h
  | false =>
    rw [ho] at h
    cases hr : Page.room S b with
    | true => exact ⟨rfl, by simp⟩
    | false => rw [hr] at h; cases h
theorem enc_not_shut {e : E} (h : Ent.right e = true) : Ent.enc e ≠ [0] := by
  intro he
  have h1 : (Ent.enc e).length = 1 := by rw [he]; rfl
  unfold Ent.enc at h1
  rw [List.length_append, Crc.low_length] at h1
  omega
theorem follows_right {l : List E} {e : E} (h : Ent.follows l e = true) : Ent.right e = true := ((Ent.follows_iff l e).1 h).1
theorem step_entry {w : What} {e : E} (hs : w.sealed = false) (hf : Ent.follows w.l e = true) : step w (Ent.enc e) = some ⟨w.l ++ [e], false⟩ := by
  have hr := follows_right hf
  have hd : Ent.dec Ent.vd (Ent.enc e) = some e := Ent.dec_vd_iff.2 ⟨hr, rfl⟩
  unfold step
  rw [if_neg (by simp [hs]), if_neg (enc_not_shut hr), hd]
  simp only
  rw [if_pos hf]
theorem ocase_next {r : Rp} {e : E} (h : r.ocase e = .next) : r.w.sealed = false ∧ Ent.follows r.w.l e = true := by
  unfold Rp.ocase at h
  split at h
  · split at h <;> cases h
  · split at h
    · cases h
    · next hs =>
      split at h
      · cases h
      · split at h
        · next hf => exact ⟨by simpa using hs, hf⟩
        · cases h
theorem Rp.Ok.order {r : Rp} (h : r.Ok) (e : E) : (r.order e).Ok := by
  unfold Rp.order
  cases hc : r.ocase e with
  | next =>
    simp only
    split
    · next he =>
      obtain ⟨hs, hf⟩ := ocase_next hc
      obtain ⟨_, ha⟩ := append_ok he
      refine ⟨h.sto.append _, ?_⟩
      show readF (r.s.append (Ent.enc e)).l = _
      rw [ha, readF_snoc, h.is]
      show step r.w (Ent.enc e) = _
      rw [step_entry hs hf, hs]
    · exact h
  | _ => exact h
theorem Rp.Ok.shut {r : Rp} (h : r.Ok) : r.shut.Ok := by
  unfold Rp.shut
  split
  · exact h
  · next hs =>
    split
    · next he =>
      obtain ⟨_, ha⟩ := append_ok he
      refine ⟨h.sto.append _, ?_⟩
      show readF (r.s.append [0]).l = _
      rw [ha, readF_snoc, h.is]
      show step r.w [0] = _
      unfold step
      rw [if_neg hs, if_pos rfl]
    · exact h
theorem sync_l (S : Page.St) : S.sync.l = S.l := by
  unfold Page.St.sync
  split <;> rfl
theorem Rp.Ok.sync {r : Rp} (h : r.Ok) : r.sync.Ok := ⟨h.sto.sync, by show readF r.s.sync.l = _; rw [sync_l]; exact h.is⟩
theorem Rp.Ok.tell {r : Rp} (h : r.Ok) (k : Int) (m : Msg.M) (err : Int) : (tell r k m err).1.Ok := by
  unfold Rep.tell
  split
  · exact h.sync
  · exact h
theorem Rp.Ok.take {r : Rp} (h : r.Ok) (m : Msg.M) : (r.take m).1.Ok := by
  unfold Rp.take
  split
  · exact h
  · split
    · exact (h.order _).tell _ _ _
    · split
      · exact h.shut.tell _ _ _
      · exact h
theorem Rp.Ok.off {r : Rp} (h : r.Ok) (o : Bool) : (r.off o).Ok := ⟨⟨h.sto.small, h.sto.le, h.sto.max⟩, h.is⟩
/-- All that there is is synced, and the store is not off. -/
structure Calm (r : Rp) : Prop where
  ok : r.Ok
  off : r.s.off = false
  all : r.s.k = r.s.l.length
theorem sync_calm {r : Rp} (h : r.Ok) (ho : r.s.off = false) : Calm r.sync := by
  refine ⟨h.sync, ?_, ?_⟩
  · show r.s.sync.off = false
    unfold Page.St.sync
    rw [if_neg (by simp [ho])]
    exact ho
  · show r.s.sync.k = r.s.sync.l.length
    unfold Page.St.sync
    rw [if_neg (by simp [ho])]
theorem order_same {r : Rp} {e : E} (h : r.orderErr e ≠ 0) : r.order e = r := by
  unfold Rp.orderErr at h
  unfold Rp.order
  cases hc : r.ocase e with
  | next => rw [hc] at h; simp only at h ⊢; rw [if_neg h]
  | _ => rfl
theorem shut_same {r : Rp} (h : r.shutErr ≠ 0) : r.shut = r := by
  unfold Rp.shutErr at h
  unfold Rp.shut
  split
  · rfl
  · next hs =>
    rw [if_neg hs] at h
    rw [if_neg h]
theorem order_off (r : Rp) (e : E) : (r.order e).s.off = r.s.off := by
  unfold Rp.order
  cases r.ocase e with
  | next =>
    simp only
    split
    · next he => show (r.s.append _).off = _; rw [(append_ok he).2]
    · rfl
  | _ => rfl
theorem shut_off (r : Rp) : r.shut.s.off = r.s.off := by
  unfold Rp.shut
  split
  · rfl
  · split
    · next he => show (r.s.append _).off = _; rw [(append_ok he).2]
    · rfl
theorem Calm.take {r : Rp} (h : Calm r) (m : Msg.M) : Calm (r.take m).1 := by
  unfold Rp.take
  split
  · exact h
  · split
    · unfold tell
      split
      · exact sync_calm (h.ok.order _) (by rw [order_off]; exact h.off)
      · next he => rw [order_same he]; exact h
    · split
      · unfold tell
        split
        · exact sync_calm h.ok.shut (by rw [shut_off]; exact h.off)
        · next he => rw [shut_same he]; exact h
      · exact h
theorem tell_w (r : Rp) (k : Int) (m : Msg.M) (err : Int) : (tell r k m err).1.w = r.w := by
  unfold tell
  split <;> rfl
end Go.Proofs.YtckdofhcifdpmaaGreat.Rep

/- Layer 11, mathematics: the statements' example. No program. -/
namespace Go.Proofs.YtckdofhcifdpmaaGreat.Rep
set_option linter.unusedSimpArgs false
set_option linter.unusedVariables false
set_option maxRecDepth 100000
open Ent (E)

def exE (n : Int) : E := ⟨n, 1, [1], 0, 0, 0⟩
def exO (n : Int) : Msg.M := ⟨3, 0, 0, 1, 0, 0, false, Msg.rec0, exE n, 0, 0, Msg.conf0⟩
def exS : Msg.M := ⟨5, 0, 0, 1, 0, 0, false, Msg.rec0, Msg.ent0, 0, 0, Msg.conf0⟩
def exR0 : Rp := ⟨0, 1, ⟨[], 0, false⟩, ⟨[], false⟩⟩
def exR1 : Rp := ⟨0, 1, ⟨[Ent.enc (exE 1)], 1, false⟩, ⟨[exE 1], false⟩⟩
def exR2 : Rp := ⟨0, 1, ⟨[Ent.enc (exE 1), [0]], 2, false⟩, ⟨[exE 1], true⟩⟩
theorem exE_right : Ent.right (exE 1) = true ∧ Ent.right (exE 2) = true := by decide
theorem exO_right : Msg.right (exO 1) = true ∧ Msg.right (exO 2) = true := by decide
theorem exS_right : Msg.right exS = true := by decide
theorem ex_len (b : List UInt8) (h : b.length ≤ 112) : (Page.frame b).length ≤ 125 := by
  have h3 := Pack.num_nine (n := b.length) (by omega)
  rw [Page.frame_length]
  omega
theorem ex_enc : (Page.frame (Ent.enc (exE 1))).length ≤ 125 := ex_len _ (Ent.enc_le exE_right.1)
theorem ex_room1 : Page.room ⟨[], 0, false⟩ (Ent.enc (exE 1)) = true := by
  have h := ex_enc
  have h0 : (Page.bytes []).length = 0 := rfl
  unfold Page.room
  simp only [decide_eq_true_eq, h0]
  omega
theorem ex_room2 : Page.room ⟨[Ent.enc (exE 1)], 0, false⟩ [0] = true := by
  have h := ex_enc
  have h0 : (Page.bytes [Ent.enc (exE 1)]).length = (Page.frame (Ent.enc (exE 1))).length := by simp [Page.bytes]
  have h1 := ex_len [0] (by decide)
  unfold Page.room
  simp only [decide_eq_true_eq, h0]
  omega
theorem ex_order : exR0.order (exE 1) = ⟨0, 1, ⟨[Ent.enc (exE 1)], 0, false⟩, ⟨[exE 1], false⟩⟩ ∧ exR0.orderErr (exE 1) = 0 := by
  have hc : exR0.ocase (exE 1) = .next := by rfl
  have ha : exR0.s.appendErr (Ent.enc (exE 1)) = 0 := by
    show (if false = true then (81 : Int) else if Page.room ⟨[], 0, false⟩ (Ent.enc (exE 1)) = true then 0 else 80) = 0
    rw [ex_room1]; rfl
  refine ⟨?_, ?_⟩
  · unfold Rp.order
    rw [hc]
    simp only
    rw [if_pos ha, (append_ok ha).2]
    rfl
  · unfold Rp.orderErr
    rw [hc]
    exact ha
theorem ex_take1 : exR0.take (exO 1) = (exR1, ⟨4, 0, 0, 1, 0, 1, false, Msg.rec0, Msg.ent0, 0, 0, Msg.conf0⟩, 0) := by
  unfold Rp.take
  rw [if_neg (by rw [exO_right.1]; decide), if_pos (by rfl)]
  show tell (exR0.order (exE 1)) 4 (exO 1) (exR0.orderErr (exE 1)) = _
  rw [ex_order.1, ex_order.2]
  rfl
theorem ex_take2 : exR1.take exS = (exR2, ⟨6, 0, 0, 1, 0, 1, true, Msg.rec0, Msg.ent0, 0, 0, Msg.conf0⟩, 0) := by
  have ha : exR1.s.appendErr [0] = 0 := by
    show (if false = true then (81 : Int) else if Page.room ⟨[Ent.enc (exE 1)], 1, false⟩ [0] = true then 0 else 80) = 0
    have h : Page.room ⟨[Ent.enc (exE 1)], 1, false⟩ [0] = Page.room ⟨[Ent.enc (exE 1)], 0, false⟩ [0] := rfl
    rw [h, ex_room2]; rfl
  have hs : exR1.shut = ⟨0, 1, ⟨[Ent.enc (exE 1), [0]], 1, false⟩, ⟨[exE 1], true⟩⟩ := by
    unfold Rp.shut
    rw [if_neg (by decide), if_pos ha, (append_ok ha).2]
    rfl
  have he : exR1.shutErr = 0 := by
    unfold Rp.shutErr
    rw [if_neg (by decide)]
    exact ha
  unfold Rp.take
  rw [if_neg (by rw [exS_right]; decide), if_neg (by decide), if_pos (by rfl), hs, he]
  rfl
theorem ex_take3 : exR2.take (exO 2) = (exR2, Msg.none0, 110) := by
  have hc : exR2.ocase (exE 2) = .shut := by rfl
  have ho : exR2.order (exE 2) = exR2 := by
    unfold Rp.order
    rw [hc]
  have he : exR2.orderErr (exE 2) = 110 := by
    unfold Rp.orderErr
    rw [hc]
  unfold Rp.take
  rw [if_neg (by rw [exO_right.2]; decide), if_pos (by rfl)]
  show tell (exR2.order (exE 2)) 4 (exO 2) (exR2.orderErr (exE 2)) = _
  rw [ho, he]
  rfl
end Go.Proofs.YtckdofhcifdpmaaGreat.Rep

/- Layer 11, mathematics: the same message twice; two replicas of one metalog. -/
namespace Go.Proofs.YtckdofhcifdpmaaGreat.Rep
set_option linter.unusedSimpArgs false
set_option linter.unusedVariables false
open Ent (E)

/-- What it has are the first ones of l. -/
def From (l : List E) (r : Rp) : Prop := r.w.l = l.take r.w.l.length
theorem chain_at {l : List E} (h : Ent.isChain l) {k : Nat} (hk : k < l.length) : Ent.follows (l.take k) l[k] = true := by
  have h1 : Ent.isChain (l.take (k + 1)) := by
    unfold Ent.isChain at *
    rw [Ent.chain_take, h, List.length_take]
  rw [take_succ_getD l k hk] at h1
  exact (Ent.isChain_snoc h1).2
theorem From.order {l : List E} {r : Rp} (hl : Ent.isChain l) (h : From l r) {k : Nat} (hk : k < l.length) : From l (r.order l[k]) := by
  unfold Rp.order
  cases hc : r.ocase l[k] with
  | next =>
    simp only
    split
    · obtain ⟨_, hf⟩ := ocase_next hc
      have h1 := ((Ent.follows_iff _ _).1 hf).2.1
      have h2 := ((Ent.follows_iff _ _).1 (chain_at hl hk)).2.1
      have hkl : k = r.w.l.length := by
        rw [List.length_take, Nat.min_eq_left (by omega)] at h2
        omega
      subst hkl
      unfold From at h ⊢
      simp only [List.length_append, List.length_cons, List.length_nil]
      rw [take_succ_getD l _ hk, ← h]
    · exact h
  | _ => exact h
theorem From.take {l : List E} {r : Rp} (hl : Ent.isChain l) (h : From l r) {m : Msg.M} (hm : m.kind = 3) {k : Nat} (hk : k < l.length) (he : m.ent = l[k]) : From l (r.take m).1 := by
  unfold Rp.take
  split
  · exact h
  · unfold From
    rw [tell_w, he]
    exact h.order hl hk
/-- Two that have first ones of l have the same ones, as far as both have them. -/
theorem From.two {l : List E} {a b : Rp} (ha : From l a) (hb : From l b) (n : Nat) (h1 : n ≤ a.len) (h2 : n ≤ b.len) : a.w.l.take n = b.w.l.take n := by
  unfold From at ha hb
  unfold Rp.len at h1 h2
  rw [ha, hb, List.take_take, List.take_take, Nat.min_eq_left h1, Nat.min_eq_left h2]
end Go.Proofs.YtckdofhcifdpmaaGreat.Rep

/- Layer 9, mathematics: what a row of frames says: records, how many are trimmed, and whether one is neither; no program. -/
namespace Go.Proofs.YtckdofhcifdpmaaGreat.Seg

structure What where
  l : List Rec.R
  trimmed : Nat
  broken : Bool
def recFrame (r : Rec.R) : List UInt8 := 1 :: Rec.enc r
def trimFrame (n : Nat) : List UInt8 := 2 :: Pack.num n
/-- The record that a frame is. -/
def asRec (f : List UInt8) : Option Rec.R := match f with
  | [] => none
  | k :: rest => if k = 1 then Rec.dec rest else none
/-- The trim that a frame is, where there are so many records, of which so many are trimmed. -/
def asTrim (many trimmed : Nat) (f : List UInt8) : Option Nat := match f with
  | [] => none
  | k :: rest => if k = 2 ∧ (Pack.St.num ⟨rest, 0⟩ (many : Int)).1.done = 0 ∧ trimmed ≤ (Pack.St.num ⟨rest, 0⟩ (many : Int)).2 then some (Pack.St.num ⟨rest, 0⟩ (many : Int)).2 else none
def step (w : What) (f : List UInt8) : What := match w.broken with
  | true => w
  | false => match asRec f with
    | some r => ⟨w.l ++ [r], w.trimmed, false⟩
    | none => match asTrim w.l.length w.trimmed f with
      | some n => ⟨w.l, n, false⟩
      | none => ⟨w.l, w.trimmed, true⟩
def readF (fs : List (List UInt8)) : What := fs.foldl step ⟨[], 0, false⟩
theorem readF_snoc (fs : List (List UInt8)) (f : List UInt8) : readF (fs ++ [f]) = step (readF fs) f := by
  unfold readF
  rw [List.foldl_append]
  rfl
theorem num_most (s : Pack.St) (most : Int) (h : 0 ≤ most) : ((s.num most).2 : Int) ≤ most := by
  unfold Pack.St.num
  split
  · exact h
  · split
    · exact h
    · split
      · exact h
      · rename_i h3
        unfold Pack.wrong at h3
        simp only
        omega
theorem asTrim_ok {many trimmed n : Nat} {f : List UInt8} (h : asTrim many trimmed f = some n) : trimmed ≤ n ∧ n ≤ many := by
  unfold asTrim at h
  split at h
  · cases h
  · rename_i k rest
    split at h
    · rename_i hc
      injection h with h
      have := num_most ⟨rest, 0⟩ (many : Int) (by omega)
      omega
    · cases h
theorem asRec_right {f : List UInt8} {r : Rec.R} (h : asRec f = some r) : Rec.right r = true := by
  unfold asRec at h
  split at h
  · cases h
  · split at h
    · exact (Rec.enc_dec h).1
    · cases h
/-- What a frame more does. -/
inductive Next (w : What) : What → Prop where
  | same : w.broken = true → Next w w
  | one (r : Rec.R) : w.broken = false → Rec.right r = true → Next w ⟨w.l ++ [r], w.trimmed, false⟩
  | trim (n : Nat) : w.broken = false → w.trimmed ≤ n → n ≤ w.l.length → Next w ⟨w.l, n, false⟩
  | stop : w.broken = false → Next w ⟨w.l, w.trimmed, true⟩
theorem step_next (w : What) (f : List UInt8) : Next w (step w f) := by
  unfold step
  cases hb : w.broken with
  | true => exact .same hb
  | false =>
    cases hr : asRec f with
    | some r => exact .one r hb (asRec_right hr)
    | none =>
      cases ht : asTrim w.l.length w.trimmed f with
      | some n => exact .trim n hb (asTrim_ok ht).1 (asTrim_ok ht).2
      | none => exact .stop hb
structure Good (w : What) : Prop where
  most : w.trimmed ≤ w.l.length
  right : ∀ r ∈ w.l, Rec.right r = true
theorem Good.next {w v : What} (g : Good w) (h : Next w v) : Good v := by
  cases h with
  | same _ => exact g
  | one r _ hr =>
    refine ⟨?_, fun x hx => ?_⟩
    · have := g.most; simp only [List.length_append, List.length_cons, List.length_nil]; omega
    · rcases List.mem_append.1 hx with h | h
      · exact g.right x h
      · obtain rfl : x = r := by simpa using h
        exact hr
  | trim n _ h1 h2 => exact ⟨h2, g.right⟩
  | stop _ => exact ⟨g.most, g.right⟩
/-- One is behind the other: more records, none less trimmed. -/
structure Grows (w v : What) : Prop where
  rows : w.l <+: v.l
  trims : w.trimmed ≤ v.trimmed
theorem Grows.refl (w : What) : Grows w w := ⟨List.prefix_refl _, Nat.le_refl _⟩
theorem Grows.trans {a b c : What} (h : Grows a b) (k : Grows b c) : Grows a c := ⟨h.rows.trans k.rows, Nat.le_trans h.trims k.trims⟩
end Go.Proofs.YtckdofhcifdpmaaGreat.Seg

/- Layer 9, mathematics: a segment is its store, and how many records were safe; its calls. No program. -/
namespace Go.Proofs.YtckdofhcifdpmaaGreat.Seg
set_option linter.unusedSimpArgs false
set_option linter.unusedVariables false

def zeroR : Rec.R := ⟨0, 0, [], []⟩
structure Sg where
  s : Page.St
  safe : Nat
def Sg.w (G : Sg) : What := readF G.s.l
def Sg.len (G : Sg) : Nat := G.w.l.length
/-- What Append finds: 0 refused, 1 there already, 2 another one there, 3 above, 4 full, 5 the next. -/
inductive Case where
  | bad | there | other | above | full | next
def Sg.case (G : Sg) (n : Int) (r : Rec.R) : Case :=
  if n < 0 ∨ Rec.right r = false then .bad
  else if n < (G.len : Int) then (if n < (G.w.trimmed : Int) then .there else if Rec.same (G.w.l.getD n.toNat zeroR) r then .there else .other)
  else if (G.len : Int) < n then .above
  else if G.w.broken = true ∨ 512 ≤ G.len then .full
  else .next
def Sg.app (G : Sg) (n : Int) (r : Rec.R) : Sg := match G.case n r with
  | .next => ⟨G.s.append (recFrame r), G.safe⟩
  | _ => G
inductive TCase where
  | bad | done | full | next
def Sg.tcase (G : Sg) (n : Int) : TCase := if n < 0 ∨ (G.len : Int) < n then .bad else if n ≤ (G.w.trimmed : Int) then .done else if G.w.broken = true then .full else .next
def Sg.trim (G : Sg) (n : Int) : Sg := match G.tcase n with
  | .next => ⟨G.s.append (trimFrame n.toNat), G.safe⟩
  | _ => G
def Sg.sync (G : Sg) : Sg := if G.s.off then G else ⟨G.s.sync, G.len⟩
/-- What holds of a segment whatever is called. -/
structure Sg.Ok (G : Sg) : Prop where
  ok : G.s.Ok
  all : G.s.k = G.s.l.length → G.safe = G.len
  low : G.safe ≤ (readF (G.s.l.take G.s.k)).l.length

theorem fold_count : ∀ (fs : List (List UInt8)) (w : What), (fs.foldl step w).l.length ≤ w.l.length + fs.length := by
  intro fs
  induction fs with
  | nil => intro w; simp
  | cons f fs ih =>
    intro w
    rw [List.foldl_cons]
    have h1 := ih (step w f)
    have h2 : (step w f).l.length ≤ w.l.length + 1 := by
      have hn := step_next w f
      generalize step w f = v at hn
      cases hn <;> simp
    simp only [List.length_cons]
    omega
theorem readF_count (fs : List (List UInt8)) : (readF fs).l.length ≤ fs.length := by
  have := fold_count fs ⟨[], 0, false⟩
  simpa [readF] using this
theorem Sg.Ok.count {G : Sg} (h : G.s.Ok) : G.len ≤ 13107 := by
  have h1 := readF_count G.s.l
  have h2 := Page.count_le G.s.l
  have h3 := h.max
  unfold Sg.len Sg.w
  omega
/-- A frame more, or none. -/
theorem append_l (S : Page.St) (b : List UInt8) : (S.append b).l = S.l ∧ (S.append b) = S ∧ S.appendErr b ≠ 0 ∨ (S.append b).l = S.l ++ [b] ∧ (S.append b).k = S.k ∧ S.appendErr b = 0 := by
  unfold Page.St.append Page.St.appendErr
  cases ho : S.off with
  | true => exact .inl ⟨by simp, by simp, by simp⟩
  | false =>
    cases hr : Page.room S b with
    | true => exact .inr ⟨by simp, by simp, by simp⟩
    | false => exact .inl ⟨by simp, by simp, by simp⟩
theorem ok_append {S : Page.St} {safe : Nat} (h : Sg.Ok ⟨S, safe⟩) (b : List UInt8) : Sg.Ok ⟨S.append b, safe⟩ := by
  rcases append_l S b with ⟨_, e, _⟩ | ⟨e, ek, _⟩
  · rw [e]; exact h
  · have hle := h.ok.le
    simp only at hle
    refine ⟨h.ok.append b, fun hk => ?_, ?_⟩
    · exfalso
      simp only at hk
      rw [e, ek] at hk
      simp at hk
      omega
    · show safe ≤ (readF ((S.append b).l.take (S.append b).k)).l.length
      rw [e, ek, List.take_append_of_le_length hle]
      exact h.low
theorem Sg.Ok.app {G : Sg} (h : G.Ok) (n : Int) (r : Rec.R) : (G.app n r).Ok := by
  unfold Sg.app
  cases G.case n r <;> first | exact h | exact ok_append h _
theorem Sg.Ok.trim {G : Sg} (h : G.Ok) (n : Int) : (G.trim n).Ok := by
  unfold Sg.trim
  cases G.tcase n <;> first | exact h | exact ok_append h _
theorem Sg.Ok.sync {G : Sg} (h : G.Ok) : G.sync.Ok := by
  unfold Sg.sync
  cases ho : G.s.off with
  | true => simpa using h
  | false =>
    have e : G.s.sync = ⟨G.s.l, G.s.l.length, G.s.off⟩ := by unfold Page.St.sync; rw [ho]; rfl
    have hs := h.ok.sync
    rw [e] at hs ⊢
    refine ⟨hs, fun _ => rfl, ?_⟩
    show G.len ≤ (readF (G.s.l.take G.s.l.length)).l.length
    rw [List.take_length]
    exact Nat.le_refl _
theorem sync_l (S : Page.St) : S.sync.l = S.l := by
  unfold Page.St.sync
  split <;> rfl
theorem same_w {S : Page.St} {b : List UInt8} (he : S.appendErr b ≠ 0) : S.append b = S := by
  rcases append_l S b with ⟨_, e, _⟩ | ⟨_, _, hn⟩
  · exact e
  · exact absurd hn he
/-- A call. -/
structure Op where
  kind : Int
  n : Int
  r : Rec.R
  is : Bool
end Go.Proofs.YtckdofhcifdpmaaGreat.Seg

/- Layer 6, mathematics: bytes as configurations, read part by part, each up to some bound: whatever the bounds are (great enough), the same are read. -/
namespace Go.Proofs.YtckdofhcifdpmaaGreat.Term

/-- A row of at most so many numbers, each of at most so much. -/
def gRow (m nd : Int) (s : Pack.St) : Pack.St × List Int := Rec.readsM nd (s.num m).1 (s.num m).2
def gRows (m nd : Int) (s : Pack.St) : Nat → Pack.St × List (List Int)
  | 0 => (s, [])
  | k + 1 => ((gRow m nd (gRows m nd s k).1).1, (gRows m nd s k).2 ++ [(gRow m nd (gRows m nd s k).1).2])
theorem gRows_len (m nd : Int) (s : Pack.St) (k : Nat) : (gRows m nd s k).2.length = k := by
  induction k with
  | zero => rfl
  | succ k ih => simp [gRows, ih]
theorem gRow_len (m nd : Int) (s : Pack.St) : (gRow m nd s).2.length = (s.num m).2 := Rec.readsM_len _ _ _
def gA (l : List UInt8) : Pack.St × Nat := Pack.St.num ⟨l, 0⟩ 64
def gB (m1 nd : Int) (l : List UInt8) : Pack.St × List Int := gRow m1 nd (gA l).1
def gC (m1 nd : Int) (l : List UInt8) : Pack.St × Nat := (gB m1 nd l).1.num 8
def gD (m1 m2 nd : Int) (l : List UInt8) : Pack.St × List (List Int) := gRows m2 nd (gC m1 nd l).1 (gC m1 nd l).2
def gread (m1 m2 nd : Int) (l : List UInt8) : C := ⟨(gA l).2, (gB m1 nd l).2, (gD m1 m2 nd l).2⟩
def gok (m1 m2 nd : Int) (l : List UInt8) : Bool := ((gD m1 m2 nd l).1.done == 0) && right (gread m1 m2 nd l)

theorem gRow_ref (s : Pack.St) : gRow 16 16 s = readRow s := rfl
theorem gRows_ref (s : Pack.St) (k : Nat) : gRows 16 16 s k = readRows s k := by
  induction k with
  | zero => rfl
  | succ k ih => simp only [gRows, readRows, ih, gRow_ref]
theorem gok_ref (l : List UInt8) : gok 16 16 16 l = readOk l := by
  have h : gD 16 16 16 l = stD l := gRows_ref _ _
  unfold gok readOk gread read
  rw [h]
  rfl
theorem gread_ref (l : List UInt8) : gread 16 16 16 l = read l := by
  have h : gD 16 16 16 l = stD l := gRows_ref _ _
  unfold gread read
  rw [h]
  rfl

/-! What is read is written as the same bytes. -/
theorem gRow_err {m nd : Int} {s : Pack.St} (h : (gRow m nd s).1.err = 0) : s.err = 0 := Rec.num_err (Rec.reads_err _ h)
theorem gRow_left {m nd : Int} {s : Pack.St} (h : (gRow m nd s).1.err = 0) : s.left = row (gRow m nd s).2 ++ (gRow m nd s).1.left := by
  have h1 := Rec.reads_err _ h
  have l1 := Rec.num_left h1
  have l2 := Rec.reads_left _ h
  unfold row
  rw [gRow_len, List.append_assoc]
  show s.left = Pack.num (s.num m).2 ++ (Rec.numsOf (Rec.readsM nd (s.num m).1 (s.num m).2).2 ++ (Rec.readsM nd (s.num m).1 (s.num m).2).1.left)
  rw [← l2]
  exact l1
theorem gRows_err {m nd : Int} {s : Pack.St} : ∀ k, (gRows m nd s k).1.err = 0 → s.err = 0 := by
  intro k
  induction k with
  | zero => intro h; exact h
  | succ k ih => intro h; exact ih (gRow_err h)
theorem gRows_left {m nd : Int} {s : Pack.St} : ∀ k, (gRows m nd s k).1.err = 0 → s.left = rowsOf (gRows m nd s k).2 ++ (gRows m nd s k).1.left := by
  intro k
  induction k with
  | zero => intro _; simp [gRows, rowsOf]
  | succ k ih =>
    intro h
    have h1 : (gRow m nd (gRows m nd s k).1).1.err = 0 := h
    have l1 := gRow_left h1
    have l2 := ih (gRow_err h1)
    show _ = rowsOf ((gRows m nd s k).2 ++ [(gRow m nd (gRows m nd s k).1).2]) ++ (gRow m nd (gRows m nd s k).1).1.left
    rw [rowsOf_snoc, List.append_assoc, ← l1]
    exact l2
theorem text_gread {m1 m2 nd : Int} {l : List UInt8} (h : gok m1 m2 nd l = true) : text (gread m1 m2 nd l) = l := by
  unfold gok at h
  rw [Bool.and_eq_true, beq_iff_eq] at h
  obtain ⟨hd, hr⟩ := h
  obtain ⟨d1, d2⟩ := Rec.done_zero hd
  have eD : (gRows m2 nd (gC m1 nd l).1 (gC m1 nd l).2).1.err = 0 := d2
  have eC : ((gB m1 nd l).1.num 8).1.err = 0 := gRows_err _ eD
  have eB : (gRow m1 nd (gA l).1).1.err = 0 := Rec.num_err eC
  have eA : (Pack.St.num ⟨l, 0⟩ 64).1.err = 0 := gRow_err eB
  have lD0 := gRows_left _ eD
  have lD : (gC m1 nd l).1.left = rowsOf (gD m1 m2 nd l).2 := by
    rw [lD0]
    show rowsOf (gD m1 m2 nd l).2 ++ (gD m1 m2 nd l).1.left = _
    rw [d1, List.append_nil]
  have lC : (gB m1 nd l).1.left = Pack.num (gC m1 nd l).2 ++ (gC m1 nd l).1.left := Rec.num_left eC
  have lB : (gA l).1.left = row (gB m1 nd l).2 ++ (gB m1 nd l).1.left := gRow_left eB
  have lA : l = Pack.num (gA l).2 ++ (gA l).1.left := Rec.num_left (s := ⟨l, 0⟩) (most := 64) eA
  have hlen : (gD m1 m2 nd l).2.length = (gC m1 nd l).2 := gRows_len _ _ _ _
  unfold text gread
  simp only
  rw [hlen, ← lD, ← lC, ← lB, show (((gA l).2 : Nat) : Int).toNat = (gA l).2 from rfl, ← lA]
theorem cut_back6 {b l : List UInt8} (h : Crc.cutOf b = some l) : l ++ Crc.low (Crc.sum l) = b := by
  unfold Crc.cutOf at h
  split at h
  · cases h
  · split at h
    · rename_i hc
      injection h with h
      rw [← h]
      exact hc
    · cases h
/-- Bytes are a configuration just if they are its bytes. -/
theorem dec_iff {b : List UInt8} {c : C} : dec b = some c ↔ right c = true ∧ enc c = b := by
  constructor
  · intro h
    unfold dec at h
    split at h
    · cases h
    · rename_i l hc
      split at h
      · rename_i hok
        injection h with h
        subst h
        rw [← gok_ref] at hok
        have ht := text_gread hok
        rw [gread_ref] at ht
        have hr : right (read l) = true := by
          unfold gok at hok
          rw [Bool.and_eq_true, gread_ref] at hok
          exact hok.2
        refine ⟨hr, ?_⟩
        unfold enc
        rw [ht]
        exact cut_back6 hc
      · cases h
  · rintro ⟨h1, rfl⟩
    exact dec_enc h1
theorem dec_cut {b : List UInt8} (hc : Crc.cutOf b = none) : dec b = none := by
  unfold dec
  rw [hc]
/-- What Decode tells. -/
def noC : C := ⟨0, [], []⟩
def errOf : Option C → Int
  | none => 60
  | some _ => 0
def confOf : Option C → C
  | none => noC
  | some c => c
end Go.Proofs.YtckdofhcifdpmaaGreat.Term
