/-
  Merged: Layer 10: a node as the document tells it, and that how far it is never falls; Maps that only grow: what a map's block holds, as a list of pairs in the order in which they came; Layer 10, the program: a node's block, its two maps; Layer 10, the program: a place is a key; Layer 10: a node in memory: a colouring of the blocks keeps its segments apart; Layer 10: what a node finds: finder's closure by the node; Layer 10: Take; Layer 10: what was told to be kept is there; Layer 10: what holds of a node whatever it is told; Layer 10: own: a configuration with rows of its own; Layer 10: Progress; Layer 10: Trim.
-/
import Derived.Maps.RangeWalk
import Derived.Maps.RangeRun
import Derived.DeepKeys4
import Derived.Test.YtaijgpdlgcgfaaaGreatBsLib
import Derived.Test.YtaijgpdlgcgfaaaGreatBsMath
import Derived.Test.YtaijgpdlgcgfaaaGreatBsMath2
import Derived.Test.YtaijgpdlgcgfaaaGreatBsMsg
import Derived.Test.YtaijgpdlgcgfaaaGreatBsSgG
import Derived.Test.YtaijgpdlgcgfaaaGreatBsSgG0
import Derived.Test.YtaijgpdlgcgfaaaGreatBsSgH
import Derived.Test.YtaijgpdlgcgfaaaGreatBsSgI
import Derived.Test.YtaijgpdlgcgfaaaGreatBsTerm
import Derived.Test.YtaijgpdlgcgfaaaGreatBsVec

set_option linter.unusedSimpArgs false
set_option linter.unusedVariables false

/- Layer 10: a node as the document tells it, and that how far it is never falls; mathematics. -/
namespace Go.Proofs.YtaijgpdlgcgfaaaGreat.Shd
set_option linter.unusedSimpArgs false
set_option linter.unusedVariables false
open Seg (Sg)

/-- A node: its number, its configurations, and its segments by term and shard, in the order in which they came. -/
structure Nd where
  id : Int
  cs : List Term.C
  gs : List ((Int × Int) × Sg)
def Nd.conf (n : Nd) (t : Int) : Option Term.C := n.cs.find? (fun c => c.term == t)
def Nd.find (n : Nd) (t s : Int) : Option Sg := (n.gs.find? (fun x => x.1 == (t, s))).map (·.2)
/-- All segments turned by F. -/
def turn (F : Int × Int → Sg → Sg) (gs : List ((Int × Int) × Sg)) : List ((Int × Int) × Sg) := gs.map fun x => (x.1, F x.1 x.2)
def at1 (key : Int × Int) (f : Sg → Sg) (k : Int × Int) (G : Sg) : Sg := if k == key then f G else G
def fresh : Sg := Seg.ofStore (Page.fromBytes [])
def serves (c : Term.C) (id : Int) (k : Nat) : Bool := (c.shards.getD k []).contains id
def parts (c : Term.C) (id : Int) (j : Nat) : List ((Int × Int) × Sg) := ((List.range j).filter fun k => serves c id k).map fun (k : Nat) => ((c.term, (k : Int)), fresh)
def Nd.serve (n : Nd) (c : Term.C) : Nd × Int :=
  if Term.right c = false then (n, 1) else match n.conf c.term with
  | some had => (n, if Term.alike had c then 0 else 100)
  | none => (⟨n.id, n.cs ++ [c], n.gs ++ parts c n.id c.shards.length⟩, 0)
def kept (n : Nd) (m : Msg.M) (k : Nat) : Msg.M := ⟨2, n.id, m.src, m.term, m.shard, (k : Int), false, Msg.rec0, Msg.ent0, 0, 0, Msg.conf0⟩
def Nd.take (n : Nd) (m : Msg.M) : Nd × Msg.M × Int :=
  if m.kind ≠ 1 ∨ m.dst ≠ n.id ∨ Msg.right m = false then (n, Msg.none0, 1) else match n.find m.term m.shard with
  | none => (n, Msg.none0, 100)
  | some G => if G.appErr m.number m.reco = 91 then (n, Msg.none0, 101) else
    (⟨n.id, n.cs, turn (at1 (m.term, m.shard) fun G => (G.app m.number m.reco).sync) n.gs⟩, if G.appErr m.number m.reco = 0 then kept n m (G.app m.number m.reco).sync.safe else Msg.none0, G.appErr m.number m.reco)
def Nd.progress (n : Nd) (t : Int) : Option (List Int) := (n.conf t).map fun c => (List.range c.shards.length).map fun (s : Nat) => match n.find t (s : Int) with | some G => (G.safe : Int) | none => 0
def Nd.read (n : Nd) (t s l : Int) : Rec.R × Int := match n.find t s with | none => (Seg.zeroR, 100) | some G => (G.getRec l, G.getErr l)
/-- The trims from a shard on, up to the first error. -/
def trims (t : Int) : List Int → Nat → Nd → Nd × Int
  | [], _, n => (n, 0)
  | u :: us, k, n => match n.find t k with
    | none => trims t us (k + 1) n
    | some G => if G.trimErr u = 0 then trims t us (k + 1) ⟨n.id, n.cs, turn (at1 (t, (k : Int)) fun G => G.trim u) n.gs⟩ else (⟨n.id, n.cs, turn (at1 (t, (k : Int)) fun G => G.trim u) n.gs⟩, G.trimErr u)
def over (n : Nd) (t : Int) (upto : List Int) : Bool := (List.range upto.length).any fun (k : Nat) => decide (upto.getD k 0 < 0) || match n.find t (k : Int) with | some G => decide ((G.len : Int) < upto.getD k 0) | none => false
def Nd.trim (n : Nd) (t : Int) (upto : List Int) : Nd × Int := match n.conf t with
  | none => (n, 100)
  | some c => if upto.length ≠ c.shards.length then (n, 1) else if over n t upto then (n, 1) else trims t upto 0 n
def Nd.sync (n : Nd) : Nd := ⟨n.id, n.cs, turn (fun _ G => G.sync) n.gs⟩
def Nd.crash (n : Nd) (keep : Int) : Nd := ⟨n.id, n.cs, turn (fun _ G => G.crash keep) n.gs⟩
def new (id : Int) : Nd := ⟨id, [], []⟩

theorem find_turn (F : Int × Int → Sg → Sg) (id : Int) (cs : List Term.C) (gs : List ((Int × Int) × Sg)) (t s : Int) : (⟨id, cs, turn F gs⟩ : Nd).find t s = ((⟨id, cs, gs⟩ : Nd).find t s).map (F (t, s)) := by
  unfold Nd.find turn
  simp only
  induction gs with
  | nil => rfl
  | cons x gs ih =>
    simp only [List.map_cons, List.find?_cons]
    cases h : (x.1 == (t, s)) with
    | true =>
      have : x.1 = (t, s) := by simpa using h
      simp [this]
    | false => exact ih
theorem find_more (id : Int) (cs cs' : List Term.C) (gs hs : List ((Int × Int) × Sg)) (t s : Int) : (⟨id, cs', gs ++ hs⟩ : Nd).find t s = ((⟨id, cs, gs⟩ : Nd).find t s).or ((⟨id, cs, hs⟩ : Nd).find t s) := by
  unfold Nd.find
  simp only [List.find?_append]
  cases h : gs.find? (fun x => x.1 == (t, s)) <;> simp
/-- All segments are as they should be. -/
def Inv (n : Nd) : Prop := ∀ x ∈ n.gs, x.2.Ok ∧ x.2.s.off = false
theorem Inv.find {n : Nd} (h : Inv n) {t s : Int} {G : Sg} (hf : n.find t s = some G) : G.Ok ∧ G.s.off = false := by
  unfold Nd.find at hf
  obtain ⟨x, hx, rfl⟩ := Option.map_eq_some_iff.1 hf
  exact h x (List.mem_of_find?_eq_some hx)
theorem Inv.turn {n : Nd} (h : Inv n) (F : Int × Int → Sg → Sg) (hF : ∀ k G, G.Ok → G.s.off = false → (F k G).Ok ∧ (F k G).s.off = false) : Inv ⟨n.id, n.cs, turn F n.gs⟩ := by
  intro x hx
  obtain ⟨y, hy, rfl⟩ := List.mem_map.1 hx
  exact hF _ _ (h y hy).1 (h y hy).2
theorem fresh_ok : fresh.Ok ∧ fresh.s.off = false := ⟨Seg.ofStore_ok (Page.fromBytes_ok []) rfl, rfl⟩
theorem at1_ok {key : Int × Int} {f : Sg → Sg} (hf : ∀ G : Sg, G.Ok → G.s.off = false → (f G).Ok ∧ (f G).s.off = false) (k : Int × Int) (G : Sg) (h1 : G.Ok) (h2 : G.s.off = false) : (at1 key f k G).Ok ∧ (at1 key f k G).s.off = false := by
  unfold at1
  split
  · exact hf G h1 h2
  · exact ⟨h1, h2⟩
theorem Inv.serve {n : Nd} (h : Inv n) (c : Term.C) : Inv (n.serve c).1 := by
  unfold Nd.serve
  split
  · exact h
  · split
    · exact h
    · intro x hx
      rcases List.mem_append.1 hx with hx | hx
      · exact h x hx
      · obtain ⟨k, _, rfl⟩ := List.mem_map.1 hx
        exact fresh_ok
theorem Inv.take {n : Nd} (h : Inv n) (m : Msg.M) : Inv (n.take m).1 := by
  unfold Nd.take
  split
  · exact h
  · split
    · exact h
    · split
      · exact h
      · exact h.turn _ (at1_ok fun G h1 h2 => ⟨(h1.app _ _).sync, by rw [Seg.sync_off, Seg.app_off]; exact h2⟩)
theorem Inv.trims {t : Int} : ∀ {us : List Int} {k : Nat} {n : Nd}, Inv n → Inv (trims t us k n).1 := by
  intro us
  induction us with
  | nil => intro k n h; exact h
  | cons u us ih =>
    intro k n h
    unfold Shd.trims
    split
    · exact ih h
    · have h2 : Inv ⟨n.id, n.cs, Shd.turn (at1 (t, (k : Int)) fun G => G.trim u) n.gs⟩ := h.turn _ (at1_ok fun G h1 h2 => ⟨h1.trim _, by rw [Seg.trim_off]; exact h2⟩)
      split
      · exact ih h2
      · exact h2
theorem Inv.trim {n : Nd} (h : Inv n) (t : Int) (upto : List Int) : Inv (n.trim t upto).1 := by
  unfold Nd.trim
  split
  · exact h
  · split
    · exact h
    · split
      · exact h
      · exact h.trims
theorem Inv.sync {n : Nd} (h : Inv n) : Inv n.sync := h.turn _ fun _ G h1 h2 => ⟨h1.sync, by rw [Seg.sync_off]; exact h2⟩
theorem Inv.crash {n : Nd} (h : Inv n) (keep : Int) : Inv (n.crash keep) := h.turn _ fun _ G h1 _ => ⟨h1.crash keep, Seg.crash_off G keep⟩

/-- What is known stays known, and how far it is never falls. -/
structure Le (n n' : Nd) : Prop where
  conf : ∀ t c, n.conf t = some c → n'.conf t = some c
  seg : ∀ t s G, n.find t s = some G → ∃ G', n'.find t s = some G' ∧ G.safe ≤ G'.safe
theorem Le.refl (n : Nd) : Le n n := ⟨fun _ _ h => h, fun _ _ G h => ⟨G, h, Nat.le_refl _⟩⟩
theorem Le.trans {a b c : Nd} (h : Le a b) (k : Le b c) : Le a c := ⟨fun t x hx => k.conf t x (h.conf t x hx), fun t s G hG => by
  obtain ⟨G1, h1, l1⟩ := h.seg t s G hG
  obtain ⟨G2, h2, l2⟩ := k.seg t s G1 h1
  exact ⟨G2, h2, Nat.le_trans l1 l2⟩⟩
theorem Le.turn {n : Nd} (h : Inv n) (F : Int × Int → Sg → Sg) (hF : ∀ k G, G.Ok → G.s.off = false → G.safe ≤ (F k G).safe) : Le n ⟨n.id, n.cs, turn F n.gs⟩ :=
  ⟨fun _ _ hx => hx, fun t s G hG => ⟨F (t, s) G, by rw [find_turn]; exact congrArg (Option.map (F (t, s))) hG, hF _ _ (h.find hG).1 (h.find hG).2⟩⟩
theorem at1_le {key : Int × Int} {f : Sg → Sg} (hf : ∀ G : Sg, G.Ok → G.s.off = false → G.safe ≤ (f G).safe) (k : Int × Int) (G : Sg) (h1 : G.Ok) (h2 : G.s.off = false) : G.safe ≤ (at1 key f k G).safe := by
  unfold at1
  split
  · exact hf G h1 h2
  · exact Nat.le_refl _
theorem le_serve {n : Nd} (h : Inv n) (c : Term.C) : Le n (n.serve c).1 := by
  unfold Nd.serve
  split
  · exact .refl _
  · split
    · exact .refl _
    · next hn =>
      refine ⟨fun t x hx => ?_, fun t s G hG => ⟨G, ?_, Nat.le_refl _⟩⟩
      · unfold Nd.conf at hx ⊢
        rw [List.find?_append, hx]
        rfl
      · rw [find_more n.id n.cs]
        show (n.find t s).or _ = _
        rw [hG]
        rfl
theorem le_take {n : Nd} (h : Inv n) (m : Msg.M) : Le n (n.take m).1 := by
  unfold Nd.take
  split
  · exact .refl _
  · split
    · exact .refl _
    · split
      · exact .refl _
      · exact Le.turn h _ (at1_le fun G h1 h2 => by
          have := Seg.sync_safe (h1.app m.number m.reco)
          rw [Seg.app_safe] at this
          exact this)
theorem le_trims {t : Int} : ∀ {us : List Int} {k : Nat} {n : Nd}, Inv n → Le n (trims t us k n).1 := by
  intro us
  induction us with
  | nil => intro k n h; exact .refl _
  | cons u us ih =>
    intro k n h
    unfold Shd.trims
    split
    · exact ih h
    · have h2 : Inv ⟨n.id, n.cs, Shd.turn (at1 (t, (k : Int)) fun G => G.trim u) n.gs⟩ := h.turn _ (at1_ok fun G h1 h2 => ⟨h1.trim _, by rw [Seg.trim_off]; exact h2⟩)
      have h3 : Le n ⟨n.id, n.cs, Shd.turn (at1 (t, (k : Int)) fun G => G.trim u) n.gs⟩ := Le.turn h _ (at1_le fun G h1 h2 => by rw [Seg.trim_safe]; exact Nat.le_refl _)
      split
      · exact h3.trans (ih h2)
      · exact h3
theorem le_trim {n : Nd} (h : Inv n) (t : Int) (upto : List Int) : Le n (n.trim t upto).1 := by
  unfold Nd.trim
  split
  · exact .refl _
  · split
    · exact .refl _
    · split
      · exact .refl _
      · exact le_trims h
theorem le_sync {n : Nd} (h : Inv n) : Le n n.sync := Le.turn h _ fun _ G h1 _ => Seg.sync_safe h1
theorem le_crash {n : Nd} (h : Inv n) (keep : Int) : Le n (n.crash keep) := Le.turn h _ fun _ G h1 _ => Seg.crash_safe h1 keep
/-- How far a node is never falls. -/
theorem Le.progress {n n' : Nd} (h : Le n n') {t : Int} {v : List Int} (hv : n.progress t = some v) : ∃ v', n'.progress t = some v' ∧ v'.length = v.length ∧ ∀ i (h1 : i < v.length) (h2 : i < v'.length), v[i] ≤ v'[i] := by
  unfold Nd.progress at hv ⊢
  obtain ⟨c, hc, rfl⟩ := Option.map_eq_some_iff.1 hv
  rw [h.conf t c hc]
  refine ⟨_, rfl, by simp, fun i h1 h2 => ?_⟩
  simp only [List.getElem_map, List.getElem_range]
  cases hf : n.find t i with
  | some G =>
    obtain ⟨G', hf', hle⟩ := h.seg t i G hf
    rw [hf']
    exact Int.ofNat_le.2 hle
  | none =>
    cases n'.find t i with
    | none => exact Int.le_refl _
    | some G' => exact Int.natCast_nonneg _
end Go.Proofs.YtaijgpdlgcgfaaaGreat.Shd

namespace Go.Proofs.YtaijgpdlgcgfaaaGreat
open Go Go.ChangeMaps Go.Maps
open Go.MapKept (heap_set)
/- Maps that only grow: what a map's block holds, as a list of pairs in the order in which they came; lookup, a new entry, and a round over all of it. No program. -/
/-- Block b holds these pairs of key and element. -/
structure MapB (P : Program) (k : TypeId) (w : World) (b : Nat) (m : List (Value × Value)) : Prop where
  at' : ∃ es clock, w.heap[b]? = some (.map es clock) ∧ es.toList.map (fun e => (e.key, e.val)) = m ∧ (∀ e ∈ es.toList, e.born < clock) ∧ (es.toList.map (·.born)).Nodup
  keys : ∀ q ∈ m, ∃ l, keyOf P k q.1 = some l
  once : (m.map (·.1)).Nodup
variable {P : Program} {k : TypeId}

theorem MapB.made (w : World) (P : Program) (k : TypeId) : MapB P k (w.alloc (.map #[] 0)) w.heap.size [] :=
  ⟨⟨#[], 0, (MapKept.heap_alloc w _).1, rfl, by simp, by simp⟩, by simp, by simp⟩
theorem MapB.block {w w' : World} {b : Nat} {m : List (Value × Value)} (h : MapB P k w b m) (hb : w'.heap[b]? = w.heap[b]?) : MapB P k w' b m := by
  obtain ⟨⟨es, c, h1, h2, h3, h4⟩, h5, h6⟩ := h
  exact ⟨⟨es, c, hb.trans h1, h2, h3, h4⟩, h5, h6⟩
theorem MapB.lt {w : World} {b : Nat} {m : List (Value × Value)} (h : MapB P k w b m) : b < w.heap.size := by
  obtain ⟨⟨es, c, h1, _⟩, _⟩ := h
  exact (Array.getElem?_eq_some_iff.1 h1).1
theorem MapB.no_cells {w : World} {b : Nat} {m : List (Value × Value)} (h : MapB P k w b m) {cs : Array Value} {t : TypeId} {fr : Nat × Nat} : w.heap[b]? ≠ some (.cells cs t fr) := by
  obtain ⟨⟨es, c, h1, _⟩, _⟩ := h
  rw [h1]; simp

theorem once_of {m : List (Value × Value)} (h : (m.map (·.1)).Nodup) {q q' : Value × Value} (hq : q ∈ m) (hq' : q' ∈ m) (he : q.1 = q'.1) : q = q' := by
  induction m with
  | nil => cases hq
  | cons a r ih =>
    simp only [List.map_cons, List.nodup_cons] at h
    rcases List.mem_cons.1 hq with rfl | h1 <;> rcases List.mem_cons.1 hq' with rfl | h2
    · rfl
    · exact absurd (he ▸ List.mem_map_of_mem h2) h.1
    · exact absurd (he.symm ▸ List.mem_map_of_mem h1) h.1
    · exact ih h.2 h1 h2

/-- A key that there is. -/
theorem MapB.found {w : World} {b : Nat} {m : List (Value × Value)} (h : MapB P k w b m) (K : Keyed P k) {t e : TypeId} (ht : P.underlying t = some (.map k e)) {key v : Value} (hm : (key, v) ∈ m) :
    (Instr.lookup t (.map (some b)) key true).run P w = .ok (.tuple #[v, .bool true]) w := by
  obtain ⟨⟨es, c, h1, h2, _⟩, h5, h6⟩ := h
  obtain ⟨l, hl⟩ := h5 _ hm
  have hk : ∀ x ∈ es.toList, ∃ l, keyOf P k x.key = some l := fun x hx => h5 (x.key, x.val) (by rw [← h2]; exact List.mem_map_of_mem (f := fun e : MapEntry => (e.key, e.val)) hx)
  rcases K.find w hl es.toList hk with ⟨_, hno⟩ | ⟨j, e0, hf, hj, hke⟩
  · rw [← h2] at hm
    obtain ⟨x, hx, he⟩ := List.mem_map.1 hm
    simp only [Prod.mk.injEq] at he
    exact absurd he.1 (hno x hx)
  · have hmem : (e0.key, e0.val) ∈ m := by rw [← h2]; exact List.mem_map_of_mem (f := fun e : MapEntry => (e.key, e.val)) (List.mem_of_getElem? hj)
    have := once_of h6 hmem hm hke
    simp only [Prod.mk.injEq] at this
    simp [Instr.lookup, run_underlying ht, MapKept.run_getObj_map h1, K.check w _ hl, hf, Result.andThen, this.2]

/-- A key that there is not. -/
theorem MapB.lost {w : World} {b : Nat} {m : List (Value × Value)} (h : MapB P k w b m) (K : Keyed P k) {t e : TypeId} (ht : P.underlying t = some (.map k e)) {key z : Value} {l : Lit} (hl : keyOf P k key = some l)
    (hm : key ∉ m.map (·.1)) (hz : (zeroValue e).run P w = .ok z w) : (Instr.lookup t (.map (some b)) key true).run P w = .ok (.tuple #[z, .bool false]) w := by
  obtain ⟨⟨es, c, h1, h2, _⟩, h5, h6⟩ := h
  have hk : ∀ x ∈ es.toList, ∃ l, keyOf P k x.key = some l := fun x hx => h5 (x.key, x.val) (by rw [← h2]; exact List.mem_map_of_mem (f := fun e : MapEntry => (e.key, e.val)) hx)
  rcases K.find w hl es.toList hk with ⟨hf, hno⟩ | ⟨j, e0, hf, hj, hke⟩
  · simp [Instr.lookup, run_underlying ht, MapKept.run_getObj_map h1, K.check w _ hl, hf, hz, Result.andThen]
  · exact absurd (by rw [← h2, ← hke]; exact List.mem_map_of_mem (f := (·.1)) (List.mem_map_of_mem (f := fun e : MapEntry => (e.key, e.val)) (List.mem_of_getElem? hj))) hm

/-- A new entry: all but the map's own block stays. -/
theorem MapB.put {w : World} {b : Nat} {m : List (Value × Value)} (h : MapB P k w b m) (K : Keyed P k) {t e : TypeId} (ht : P.underlying t = some (.map k e)) {key val : Value} {l : Lit} (hl : keyOf P k key = some l)
    (hm : key ∉ m.map (·.1)) : ∃ o, (Instr.mapUpdate t (.map (some b)) key val).run P w = .ok () (setBlock w b o) ∧ MapB P k (setBlock w b o) b (m ++ [(key, val)]) := by
  obtain ⟨⟨es, c, h1, h2, h3, h4⟩, h5, h6⟩ := h
  have hk : ∀ x ∈ es.toList, ∃ l, keyOf P k x.key = some l := fun x hx => h5 (x.key, x.val) (by rw [← h2]; exact List.mem_map_of_mem (f := fun e : MapEntry => (e.key, e.val)) hx)
  rcases K.find w hl es.toList hk with ⟨hf, hno⟩ | ⟨j, e0, hf, hj, hke⟩
  · refine ⟨.map (es.push ⟨key, val, c⟩) (c + 1), by simp [Instr.mapUpdate, run_underlying ht, MapKept.run_getObj_map h1, K.check w false hl, hf, MapKept.run_setObj_map _ h1, Result.andThen, setBlock], ⟨_, _, heap_setBlock_same h1 _, by simp [h2], ?_, ?_⟩, ?_, ?_⟩
    · intro x hx
      simp only [Array.toList_push, List.mem_append, List.mem_singleton] at hx
      rcases hx with hx | rfl
      · exact Nat.lt_succ_of_lt (h3 x hx)
      · exact Nat.lt_succ_self _
    · simp only [Array.toList_push, List.map_append, List.map_cons, List.map_nil]
      refine List.nodup_append.2 ⟨h4, by simp, ?_⟩
      intro a ha b' hb' he
      simp only [List.mem_singleton] at hb'
      subst hb'; subst he
      obtain ⟨x, hx, hxe⟩ := List.mem_map.1 ha
      exact absurd hxe (Nat.ne_of_lt (h3 x hx))
    · intro q hq
      rcases List.mem_append.1 hq with hq | hq
      · exact h5 q hq
      · rw [List.mem_singleton.1 hq]; exact ⟨l, hl⟩
    · rw [List.map_append]
      refine List.nodup_append.2 ⟨h6, by simp, ?_⟩
      intro a ha b' hb' he
      simp only [List.map_cons, List.map_nil, List.mem_singleton] at hb'
      subst hb'; subst he
      exact hm ha
  · exact absurd (by rw [← h2, ← hke]; exact List.mem_map_of_mem (f := (·.1)) (List.mem_map_of_mem (f := fun e : MapEntry => (e.key, e.val)) (List.mem_of_getElem? hj))) hm

/-- A round over a map that stays as it is: `left` has yet to come. -/
def RangeB (w : World) (b r : Nat) (m left : List (Value × Value)) : Prop :=
  ∃ es clock since seen c0, w.heap[b]? = some (.map es clock) ∧ w.heap[r]? = some (.mapIter (some b) since seen c0) ∧ es.toList.map (fun e => (e.key, e.val)) = m ∧
    (∀ e ∈ es.toList, e.born < since) ∧ since ≤ c0 ∧ since ≤ clock ∧ (es.toList.map (·.born)).Nodup ∧ (leftOf es seen).toList.map (fun e => (e.key, e.val)) = left
theorem RangeB.blocks {w w' : World} {b r : Nat} {m left : List (Value × Value)} (h : RangeB w b r m left) (h1 : w'.heap[b]? = w.heap[b]?) (h2 : w'.heap[r]? = w.heap[r]?) : RangeB w' b r m left := by
  obtain ⟨es, clock, since, seen, c0, e1, e2, h⟩ := h
  exact ⟨es, clock, since, seen, c0, h1.trans e1, h2.trans e2, h⟩
theorem RangeB.lt {w : World} {b r : Nat} {m left : List (Value × Value)} (h : RangeB w b r m left) : b < w.heap.size ∧ r < w.heap.size ∧ b ≠ r := by
  obtain ⟨es, clock, since, seen, c0, e1, e2, _⟩ := h
  refine ⟨(Array.getElem?_eq_some_iff.1 e1).1, (Array.getElem?_eq_some_iff.1 e2).1, fun e => ?_⟩
  subst e; rw [e1] at e2; cases e2
/-- 'range m'. -/
theorem MapB.range {w : World} {b : Nat} {m : List (Value × Value)} (h : MapB P k w b m) {t e : TypeId} (ht : P.underlying t = some (.map k e)) :
    ∃ w', (Instr.range t (.map (some b))).run P w = .ok (.pointer (some ⟨w.heap.size, 0, none⟩)) w' ∧ RangeB w' b w.heap.size m m ∧ w.grownBy w' none ∧ w'.heap.size = w.heap.size + 1 := by
  have hlt := h.lt
  obtain ⟨⟨es, c, h1, h2, h3, h4⟩, h5, h6⟩ := h
  exact ⟨_, run_range_map w t k e b es c ht h1, ⟨es, c, c, #[], c, ((MapKept.heap_alloc w _).2 b hlt).trans h1, (MapKept.heap_alloc w _).1, h2, h3, Nat.le_refl _, Nat.le_refl _, h4, by rw [leftOf]; simpa using (congrArg (List.map fun e : MapEntry => (e.key, e.val)) (List.filter_eq_self.2 (fun _ _ => rfl) : es.toList.filter (fun _ => true) = es.toList)).trans h2⟩, World.grownBy_alloc w _ none, by simp⟩

theorem filter_born {L : List MapEntry} (hn : (L.map (·.born)).Nodup) {e : MapEntry} (he : e ∈ L) : ∃ l1 l2, L = l1 ++ e :: l2 ∧ L.filter (fun x => !(x.born == e.born)) = l1 ++ l2 := by
  obtain ⟨l1, l2, rfl⟩ := List.append_of_mem he
  refine ⟨l1, l2, rfl, ?_⟩
  simp only [List.map_append, List.map_cons] at hn
  have h1 := List.nodup_append.1 hn
  have h2 := List.nodup_cons.1 h1.2.1
  rw [List.filter_append, List.filter_cons_of_neg (by simp)]
  congr 1
  · refine List.filter_eq_self.2 fun x hx => ?_
    have := h1.2.2 _ (List.mem_map_of_mem (f := (·.born)) hx) _ (by simp : e.born ∈ e.born :: l2.map (·.born))
    simpa using this
  · refine List.filter_eq_self.2 fun x hx => ?_
    have : x.born ≠ e.born := fun h => h2.1 (h ▸ List.mem_map_of_mem (f := (·.born)) hx)
    simpa using this

/-- A step of it, and what is read behind the step. -/
theorem RangeB.next {w : World} {b r : Nat} {m left : List (Value × Value)} (h : RangeB w b r m left) (ty : TypeId) :
    (left = [] ∧ (Instr.next (.pointer (some ⟨r, 0, none⟩)) false ty).run P w = .ok (.tuple #[.bool false]) w) ∨
    ∃ l1 q l2 w', left = l1 ++ q :: l2 ∧ q ∈ m ∧ (Instr.next (.pointer (some ⟨r, 0, none⟩)) false ty).run P w = .ok (.tuple #[.bool true, q.1, q.2]) w' ∧ RangeB w' b r m (l1 ++ l2) ∧ w.grownBy w' (some r) ∧ w'.heap.size = w.heap.size ∧
      (Instr.entry (.pointer (some ⟨r, 0, none⟩))).run P w' = .ok (.tuple #[q.1, q.2]) w' := by
  have hne := h.lt.2.2
  obtain ⟨es, clock, since, seen, c0, hb, hr, hm, hold, hsc, hsk, hnd, hl⟩ := h
  rcases run_next_at (P := P) w ty r b since c0 seen es clock hr hb hold hsc with ⟨h0, hrun⟩ | ⟨e, he, w1, hal, hrun⟩
  · refine Or.inl ⟨?_, hrun⟩
    rw [← hl, Array.eq_empty_of_size_eq_zero h0]; rfl
  · have hL : (leftOf es seen).toList = es.toList.filter (fun x => !seen.contains x.born) := by simp [leftOf]
    have hem : e ∈ es.toList := by rw [hL] at he; exact (List.mem_filter.1 he).1
    have hndL : ((leftOf es seen).toList.map (·.born)).Nodup := by rw [hL]; exact hnd.sublist ((List.filter_sublist).map _)
    obtain ⟨l1, l2, e1, e2⟩ := filter_born hndL he
    have hr1 : w1.heap[r]? = some (.mapIter (some b) since seen c0) := by rcases hal with rfl | rfl <;> exact hr
    have hb1 : w1.heap[b]? = some (.map es clock) := by rcases hal with rfl | rfl <;> exact hb
    have hset := heap_set (o' := .mapIter (some b) since (seen.push e.born) clock) hr1
    have hb' : (setBlock w1 r (.mapIter (some b) since (seen.push e.born) clock)).heap[b]? = some (.map es clock) := (hset.2 b hne).trans hb1
    refine Or.inr ⟨l1.map (fun e => (e.key, e.val)), (e.key, e.val), l2.map (fun e => (e.key, e.val)), _, ?_, ?_, hrun, ⟨es, clock, since, seen.push e.born, clock, hb', hset.1, hm, hold, hsk, hsk, hnd, ?_⟩, ?_, ?_, run_entry_at _ r b since seen es clock e hset.1 hb' hem hnd⟩
    · rw [← hl, e1]; simp
    · rw [← hm]; exact List.mem_map_of_mem (f := fun e : MapEntry => (e.key, e.val)) hem
    · rw [← List.map_append, ← e2, hL, List.filter_filter]
      have : (leftOf es (seen.push e.born)).toList = es.toList.filter (fun x => !(seen.push e.born).contains x.born) := by simp [leftOf]
      rw [this]
      congr 1
      refine List.filter_congr fun x _ => ?_
      rw [Array.contains_push]
      cases seen.contains x.born <;> cases (x.born == e.born) <;> rfl
    · rcases hal with rfl | rfl <;> exact ⟨rfl, rfl, rfl, by simp [setBlock], fun i _ hi => hset.2 i (fun e1 => hi (by rw [e1]))⟩
    · rcases hal with rfl | rfl <;> simp [setBlock]
end Go.Proofs.YtaijgpdlgcgfaaaGreat

namespace Go.Proofs.YtaijgpdlgcgfaaaGreat
set_option linter.unusedSimpArgs false
set_option linter.unusedVariables false
set_option maxRecDepth 100000
open Go.RowKit
/- Layer 10, the program: a node's block, its two maps; New. -/
/-- A place, as a key. -/
def placeV (t s : Int) : Value := .agg #[.int .i64 t, .int .i64 s]
theorem placeV_inj {t s t' s' : Int} (h : placeV t s = placeV t' s') : (t, s) = (t', s') := by
  unfold placeV at h
  injection h with h
  simp at h
  simp [h.1, h.2]
theorem int_inj {a b : Int} (h : Value.int .i64 a = .int .i64 b) : a = b := by injection h
theorem int10_keyed : Maps.Keyed Tryz.prog 3 := Maps.int_keyed Tryz.underlying3
theorem place10_keyed : Maps.Keyed Tryz.prog 130 := Maps.Keyed.of_law (deep_law_laid (by kernel_rfl) (m := 2) (by omega) (of_decide_eq_true (by kernel_rfl)) (by kernel_rfl) (by kernel_rfl))
theorem int10_key {x : Int} (hx : (Lit.int .i64 x).wf = true) : keyOf Tryz.prog 3 (.int .i64 x) = some (.int .i64 x) := Maps.keyOf_int_mk Tryz.underlying3 hx

/-- A node's block and its maps: these entries. -/
structure NodeB (w : World) (B x M1 M2 : Nat) (id : Int) (cm gm : List (Value × Value)) : Prop where
  x1 : B ≤ x
  m1 : B ≤ M1
  m2 : B ≤ M2
  apart : M1 ≠ M2
  heap : w.heap[x]? = some (.cells #[.int .i64 id, .map (some M1), .map (some M2)] 118 (0, 0))
  confs : MapB Tryz.prog 3 w M1 cm
  segs : MapB Tryz.prog 130 w M2 gm
theorem NodeB.ne {w : World} {B x M1 M2 : Nat} {id : Int} {cm gm : List (Value × Value)} (h : NodeB w B x M1 M2 id cm gm) : x ≠ M1 ∧ x ≠ M2 :=
  ⟨fun e => h.confs.no_cells (e ▸ h.heap), fun e => h.segs.no_cells (e ▸ h.heap)⟩
theorem NodeB.lt {w : World} {B x M1 M2 : Nat} {id : Int} {cm gm : List (Value × Value)} (h : NodeB w B x M1 M2 id cm gm) : x < w.heap.size := (Array.getElem?_eq_some_iff.1 h.heap).1
theorem NodeB.blocks {w w' : World} {B x M1 M2 : Nat} {id : Int} {cm gm : List (Value × Value)} (h : NodeB w B x M1 M2 id cm gm) (h0 : w'.heap[x]? = w.heap[x]?) (h1 : w'.heap[M1]? = w.heap[M1]?) (h2 : w'.heap[M2]? = w.heap[M2]?) : NodeB w' B x M1 M2 id cm gm :=
  ⟨h.x1, h.m1, h.m2, h.apart, h0.trans h.heap, h.confs.block h1, h.segs.block h2⟩
theorem NodeB.ext {w w' : World} {B x M1 M2 : Nat} {id : Int} {cm gm : List (Value × Value)} (h : NodeB w B x M1 M2 id cm gm) (hE : Ext w w') : NodeB w' B x M1 M2 id cm gm :=
  h.blocks (hE.block x h.lt) (hE.block M1 h.confs.lt) (hE.block M2 h.segs.lt)

/-- What New tells. -/
def GivesNew10 (w : World) (id : Int) (e : Ending) (w' : World) : Prop :=
  ((∃ x M1 M2, e = .returned (.tuple #[.pointer (some ⟨x, 0, none⟩), .int .i64 0]) ∧ NodeB w' w.heap.size x M1 M2 id [] [] ∧ 0 ≤ id ∧ id < 16) ∨
   (¬(0 ≤ id ∧ id < 16) ∧ e = .returned (.tuple #[.pointer none, .int .i64 1]))) ∧ Ext w w'
set_option maxHeartbeats 1000000 in
theorem new10_any (id : Int) (w : World) : Calls Tryz.prog 11 #[.int .i64 id] w (GivesNew10 w id) := by
  go_enter Tryz.func11, Tryz.ntmps11
  by_cases h0 : id < 0
  · have g0 : decide (id < 0) = true := by simp [h0]
    have HH := Lib.hid h0
    clear h0
    go_wp2
    go_ret2
    exact ⟨.inr ⟨fun h => by have := HH.out; omega, rfl⟩, Ext.refl _⟩
  · have g0 : decide (id < 0) = false := by simp [h0]
    by_cases h1 : 16 ≤ id
    · have g1 : decide (16 ≤ id) = true := by simp [h1]
      have HH := Lib.hid h1
      clear h0 h1
      go_wp2
      go_ret2
      exact ⟨.inr ⟨fun h => by have := HH.out; omega, rfl⟩, Ext.refl _⟩
    · have g1 : decide (16 ≤ id) = false := by simp [h1]
      have HH := Lib.hid (And.intro h0 h1)
      clear h0 h1
      have hmm := @run_makeMap Tryz.prog
      go_wp2
      clear hmm
      go_ret2
      refine ⟨.inl ⟨w.heap.size + 1 + 1, w.heap.size, w.heap.size + 1, rfl, ?_, by have := HH.out; omega, by have := HH.out; omega⟩, ((Ext.alloc w _).trans (Ext.alloc _ _)).trans (Ext.alloc _ _)⟩
      have q1 : (w.alloc (.map #[] 0)).heap.size = w.heap.size + 1 := World.size_alloc _ _
      have q2 : ((w.alloc (.map #[] 0)).alloc (.map #[] 0)).heap.size = w.heap.size + 1 + 1 := by rw [World.size_alloc, q1]
      have s1 := MapB.made w Tryz.prog 3
      have s2 := MapB.made (w.alloc (.map #[] 0)) Tryz.prog 130
      rw [q1] at s2
      have e3 := fun o => (MapKept.heap_alloc ((w.alloc (.map #[] 0)).alloc (.map #[] 0)) o).1
      rw [q2] at e3
      exact ⟨by omega, Nat.le_refl _, by omega, by omega, e3 _, s1.block (by rw [(Ext.alloc _ _).block _ (by rw [q2]; omega), (Ext.alloc _ _).block _ (by rw [q1]; omega)]), s2.block ((Ext.alloc _ _).block _ (by rw [q2]; omega))⟩
/- Layer 10, the program: a place is a key; finder. -/
theorem place10_key {t s : Int} (ht : (Lit.int .i64 t).wf = true) (hs : (Lit.int .i64 s).wf = true) : ∃ l, keyOf Tryz.prog 130 (placeV t s) = some l := by
  have h1 : Tryz.prog.keyType 130 = true := by kernel_rfl
  have h2 : Tryz.prog.cellsOf 130 = 2 := by kernel_rfl
  have h3 : Tryz.prog.cellsOf 3 = 1 := by kernel_rfl
  have hf : (placeV t s).formed Tryz.prog 130 = true := by
    unfold placeV
    rw [Value.formed, Tryz.underlying130]
    simp [h2]
  obtain ⟨n, hn⟩ : ∃ n, Tryz.prog.types.size = n + 1 := Nat.exists_eq_succ_of_ne_zero (of_decide_eq_true (p := Tryz.prog.types.size ≠ 0) (by kernel_rfl))
  unfold keyOf
  rw [Tryz.underlying130]
  simp only [h1, hf, Bool.and_self, if_true, hn]
  unfold placeV
  simp [Program.keyLits, Tryz.underlying130, Tryz.underlying3, h2, h3, ht, hs, Value.cells]
/-- What a finder tells. -/
def GivesFind10 (w : World) (gm : List (Value × Value)) (t k : Int) (e : Ending) (w' : World) : Prop :=
  (∃ v b, e = .returned (.tuple #[v, .bool b]) ∧ ((b = true ∧ (placeV t k, v) ∈ gm) ∨ (b = false ∧ v = .pointer none ∧ placeV t k ∉ gm.map (·.1)))) ∧ Ext w w'
set_option maxHeartbeats 1000000 in
theorem find10_any (bn bt x M1 M2 B : Nat) (id t k : Int) (cm gm : List (Value × Value)) (w : World) (hN : NodeB w B x M1 M2 id cm gm) (ht : (Lit.int .i64 t).wf = true) (hk : (Lit.int .i64 k).wf = true)
    (hbn : w.heap[bn]? = some (.cells #[.pointer (some ⟨x, 0, none⟩)] 37 (0, 0))) (hbt : w.heap[bt]? = some (.cells #[.int .i64 t] 3 (0, 0))) :
    Calls Tryz.prog 100 #[.int .i64 k, .pointer (some ⟨bn, 0, none⟩), .pointer (some ⟨bt, 0, none⟩)] w (GivesFind10 w gm t k) := by
  obtain ⟨l, hl⟩ := place10_key ht hk
  have hL : ∃ v b, ((b = true ∧ (placeV t k, v) ∈ gm) ∨ (b = false ∧ v = .pointer none ∧ placeV t k ∉ gm.map (·.1))) ∧ (Instr.lookup 116 (.map (some M2)) (.agg #[.int .i64 t, .int .i64 k]) true).run Tryz.prog w.drew = .ok (.tuple #[v, .bool b]) w.drew := by
    have hm : MapB Tryz.prog 130 w.drew M2 gm := hN.segs.block rfl
    by_cases h : placeV t k ∈ gm.map (·.1)
    · obtain ⟨q, hq, he⟩ := List.mem_map.1 h
      refine ⟨q.2, true, .inl ⟨rfl, by rw [← he]; exact hq⟩, hm.found place10_keyed Tryz.underlying116 (by rw [show Value.agg #[.int .i64 t, .int .i64 k] = q.1 from he.symm]; exact hq)⟩
    · exact ⟨_, false, .inr ⟨rfl, rfl, h⟩, hm.lost place10_keyed Tryz.underlying116 hl h (by kernel_rfl)⟩
  obtain ⟨v, b, hvb, hrun⟩ := hL
  have HV := Lib.hid hvb
  clear hvb
  have c1 := cell_of_heap (show w.drew.heap[bn]? = _ from hbn) 0
  have c2 := cell_of_heap (show w.drew.heap[bt]? = _ from hbt) 0
  have c3 := cell_of_heap (show w.drew.heap[x]? = _ from hN.heap) 0
  have c4 := cell_of_heap (show w.drew.heap[x]? = _ from hN.heap) 1
  have c5 := cell_of_heap (show w.drew.heap[x]? = _ from hN.heap) 2
  have HN := Lib.hid hN
  clear hN hbn hbt hl ht hk
  simp at c1 c2 c3 c4 c5
  go_enter Tryz.func100, Tryz.ntmps100
  go_wp2_with fail
  go_region
  go_wp2
  go_ret2
  exact ⟨⟨v, b, rfl, HV.out⟩, Ext.drew _⟩

/-- The closure that finder makes: its two boxes are new. -/
def GivesFinder10 (w : World) (x : Nat) (t : Int) (e : Ending) (w' : World) : Prop :=
  e = .returned (.func (.func 100) #[] #[.pointer (some ⟨w.heap.size, 0, none⟩), .pointer (some ⟨w.heap.size + 1, 0, none⟩)]) ∧ Ext w w' ∧
    w'.heap[w.heap.size]? = some (.cells #[.pointer (some ⟨x, 0, none⟩)] 37 (0, 0)) ∧ w'.heap[w.heap.size + 1]? = some (.cells #[.int .i64 t] 3 (0, 0)) ∧ w'.heap.size = w.heap.size + 2
set_option maxHeartbeats 1000000 in
theorem finder10_any (x : Nat) (t : Int) (w : World) : Calls Tryz.prog 53 #[.pointer (some ⟨x, 0, none⟩), .int .i64 t] w (GivesFinder10 w x t) := by
  go_enter Tryz.func53, Tryz.ntmps53
  go_wp2
  go_ret
  have h := heap_two w (.cells #[.pointer (some ⟨x, 0, none⟩)] 37 (0, 0)) (.cells #[.int .i64 t] 3 (0, 0))
  exact ⟨rfl, (Ext.alloc w _).trans (Ext.alloc _ _), h.1, h.2, by rw [World.size_alloc, World.size_alloc]⟩
/- Layer 10: a node in memory: a colouring of the blocks keeps its segments apart. 0: the caller's; 1: what is never written; o + 2: the maps of the node o (0 or 1); 2 i + 4 + o: its i-th segment. -/
def Agree (w : World) (col col' : Nat → Nat) : Prop := ∀ k, k < w.heap.size → col' k = col k
def Cover (w : World) (col : Nat → Nat) : Prop := ∀ k, col k ≠ 0 → k < w.heap.size
/-- What is new gets a colour. -/
def paint (col : Nat → Nat) (w w' : World) (c : Nat) (k : Nat) : Nat := if w.heap.size ≤ k ∧ k < w'.heap.size then c else col k
section
variable {w w1 w2 w' : World} {col col1 col2 col' : Nat → Nat} {c : Nat}
theorem Agree.refl (w : World) (col : Nat → Nat) : Agree w col col := fun _ _ => rfl
theorem Agree.trans (h : Agree w col col1) (k : Agree w1 col1 col2) (hs : w.heap.size ≤ w1.heap.size) : Agree w col col2 := fun i hi => (k i (Nat.lt_of_lt_of_le hi hs)).trans (h i hi)
theorem agree_paint (w w' : World) (col : Nat → Nat) (c : Nat) : Agree w col (paint col w w' c) := fun k hk => by
  unfold paint
  rw [if_neg (by omega)]
theorem cover_paint (h : Cover w col) (hs : w.heap.size ≤ w'.heap.size) (c : Nat) : Cover w' (paint col w w' c) := fun k hk => by
  unfold paint at hk
  split at hk
  · next h1 => exact h1.2
  · exact Nat.lt_of_lt_of_le (h k hk) hs
theorem Cover.later (h : Cover w col) (hs : w.heap.size ≤ w'.heap.size) : Cover w' col := fun k hk => Nat.lt_of_lt_of_le (h k hk) hs
theorem paint_new {k : Nat} (h1 : w.heap.size ≤ k) (h2 : k < w'.heap.size) : paint col w w' c k = c := by
  unfold paint
  rw [if_pos ⟨h1, h2⟩]
theorem paint_later (hc : Cover w col) {c : Nat} (h0 : c ≠ 0) {k : Nat} (h : Later (fun k => col k = c) w w' k) : paint col w w' c k = c := by
  rcases h with h | h
  · rw [agree_paint w w' col c k (hc k (by omega))]
    exact h
  · exact paint_new h.1 h.2
theorem TwS.mono {S T : Nat → Prop} (h : TwS S w w') (hS : ∀ k, k < w.heap.size → S k → T k) : TwS T w w' := ⟨h.os, h.tape, h.output, h.size, fun k hk hu => h.block k hk (fun e => hu (hS k hk e))⟩
/-- Something else is turned behind. -/
theorem TwS.then {S T : Nat → Prop} (h : TwS S w w1) (k : TwS T w1 w2) (hT : ∀ i, i < w.heap.size → T i → S i) : TwS S w w2 :=
  ⟨k.os.trans h.os, k.tape.trans h.tape, k.output.trans h.output, Nat.le_trans h.size k.size, fun i hi hu => (k.block i (Nat.lt_of_lt_of_le hi h.size) (fun e => hu (hT i hi e))).trans (h.block i hi hu)⟩

/-- What hangs on blocks of the colour 1 alone. -/
def Held (w : World) (col : Nat → Nat) (P : World → Prop) : Prop := ∀ w', TwS (fun k => col k ≠ 1) w w' → P w'
theorem Held.is {P : World → Prop} (h : Held w col P) : P w := h w (TwS.ext (Ext.refl w))
theorem Held.next {P : World → Prop} {S : Nat → Prop} (h : Held w col P) (ht : TwS S w w1) (hS : ∀ k, k < w.heap.size → S k → col k ≠ 1) (ha : Agree w col col1) : Held w1 col1 P := fun w2 h2 =>
  h w2 ((ht.mono hS).then h2 fun i hi h1 => by rw [← ha i hi]; exact h1)

/-- The colours of a node that is told o. -/
def Mine (o c : Nat) : Prop := 2 ≤ c ∧ c % 2 = o
theorem Mine.ne {o o' c : Nat} (h : Mine o c) (hn : o ≠ o') : ¬ Mine o' c := fun k => hn (h.2.symm.trans k.2)
theorem mine_seg {o : Nat} (ho : o < 2) (i : Nat) : Mine o (2 * i + 4 + o) := ⟨by omega, by omega⟩
theorem mine_map {o : Nat} (ho : o < 2) : Mine o (o + 2) := ⟨by omega, by omega⟩

theorem IsSto.blocks {B p : Nat} {va vp : Value} {S : Page.St} (h : IsSto w B p va vp S) (h1 : w'.heap[p]? = w.heap[p]?) (h2 : ∀ k, va.ownBlock = some k → w'.heap[k]? = w.heap[k]?) (h3 : ∀ k, vp.ownBlock = some k → w'.heap[k]? = w.heap[k]?) : IsSto w' B p va vp S :=
  ⟨h1.trans h.heap, rowOwn h.all h2, rowOwn h.places h3, h.ok⟩
theorem SegAt.blocks {B g p : Nat} {vp lv : Value} {ps : List (Value × Rec.R)} {W : Seg.What} {safe : Nat} {br : Bool} (h : SegAt w B g p vp lv ps W safe br) (h1 : w'.heap[g]? = w.heap[g]?) (h2 : ∀ k, lv.ownBlock = some k → w'.heap[k]? = w.heap[k]?) (h3 : ∀ q ∈ ps, ∀ k, q.1.ownBlock = some k → w'.heap[k]? = w.heap[k]?) : SegAt w' B g p vp lv ps W safe br :=
  ⟨h1.trans h.heap, rowOwn h.row h2, h.recs, fun q hq => ⟨(h.tags q hq).1.same (h3 q hq), (h.tags q hq).2⟩, h.low⟩
/-- A segment all of whose blocks have one colour. -/
structure SegCB (w : World) (B : Nat) (col : Nat → Nat) (c g p : Nat) (va vp lv : Value) (ps : List (Value × Rec.R)) (G : Seg.Sg) : Prop where
  seg : IsSegS w B (fun k => col k = c) g p va vp lv ps G
  tags : ∀ q ∈ ps, ∀ k, q.1.ownBlock = some k → col k = c
def SegC (w : World) (B : Nat) (col : Nat → Nat) (c g : Nat) (G : Seg.Sg) : Prop := ∃ p va vp lv ps, SegCB w B col c g p va vp lv ps G
theorem SegC.keep {B g : Nat} {G : Seg.Sg} (h : SegC w B col c g G) (hc : Cover w col) (h0 : c ≠ 0) (hb : ∀ k, k < w.heap.size → col k = c → w'.heap[k]? = w.heap[k]?) (ha : Agree w col col') : SegC w' B col' c g G := by
  obtain ⟨p, va, vp, lv, ps, h, ht⟩ := h
  have hb' : ∀ k, col k = c → w'.heap[k]? = w.heap[k]? := fun k hk => hb k (hc k (by omega)) hk
  have ha' : ∀ k, col k = c → col' k = c := fun k hk => (ha k (hc k (by omega))).trans hk
  refine ⟨p, va, vp, lv, ps, ⟨h.g1, ha' _ h.g2, h.p1, ha' _ h.p2, fun k hk => ha' k (h.ua k hk), fun k hk => ha' k (h.up k hk), fun k hk => ha' k (h.ul k hk), ?_, ?_⟩, fun q hq k hk => ha' k (ht q hq k hk)⟩
  · exact h.sto.blocks (hb' _ h.p2) (fun k hk => hb' k (h.ua k hk)) (fun k hk => hb' k (h.up k hk))
  · exact h.seg.blocks (hb' _ h.g2) (fun k hk => hb' k (h.ul k hk)) (fun q hq k hk => hb' k (ht q hq k hk))
/-- A segment that was turned. -/
theorem SegCB.later {B g p : Nat} {va vp lv : Value} {ps : List (Value × Rec.R)} {G G' : Seg.Sg} (h : SegCB w B col c g p va vp lv ps G) (hc : Cover w col) (h0 : c ≠ 0) (hL : ∃ va vp lv ps', IsSegS w' B (Later (fun k => col k = c) w w') g p va vp lv ps' G' ∧ TagsNew w ps ps') : SegC w' B (paint col w w' c) c g G' := by
  obtain ⟨va', vp', lv', ps', hs, hn⟩ := hL
  refine ⟨p, va', vp', lv', ps', hs.wider fun k hk => paint_later hc h0 hk, fun q hq k hk => ?_⟩
  rcases hn q hq k hk with ⟨r, hr, hk2⟩ | hge
  · exact paint_later hc h0 (.inl (h.tags r hr k hk2))
  · obtain ⟨cur, hcur⟩ := (hs.seg.tags q hq).1.at hk
    exact paint_new hge (Array.getElem?_eq_some_iff.1 hcur).1
end

def confsOf (l : List (Value × Term.C)) : List (Value × Value) := l.map fun q => (.int .i64 q.2.term, q.1)
def segsOf (l : List (Nat × (Int × Int) × Seg.Sg)) : List (Value × Value) := l.map fun q => (placeV q.2.1.1 q.2.1.2, .pointer (some ⟨q.1, 0, none⟩))

structure NodeC (w : World) (B x M1 M2 o : Nat) (col : Nat → Nat) (cvs : List (Value × Term.C)) (gvs : List (Nat × (Int × Int) × Seg.Sg)) (n : Shd.Nd) : Prop where
  blk : NodeB w B x M1 M2 n.id (confsOf cvs) (segsOf gvs)
  cs : cvs.map (·.2) = n.cs
  gs : gvs.map (·.2) = n.gs
  confs : ∀ q ∈ cvs, Held w col (fun w' => IsConf w' q.1 q.2)
  segs : ∀ i (hi : i < gvs.length), SegC w B col (2 * i + 4 + o) gvs[i].1 gvs[i].2.2
  cx : col x = 1
  cm1 : col M1 = o + 2
  cm2 : col M2 = o + 2
  cover : Cover w col
  odd : o < 2
def IsNode (w : World) (B x o : Nat) (col : Nat → Nat) (n : Shd.Nd) : Prop := ∃ M1 M2 cvs gvs, NodeC w B x M1 M2 o col cvs gvs n
section
variable {w w' : World} {B x M1 M2 o : Nat} {col col' : Nat → Nat} {cvs : List (Value × Term.C)} {gvs : List (Nat × (Int × Int) × Seg.Sg)} {n : Shd.Nd}
/-- Blocks of other colours are turned. -/
theorem NodeC.frame {S : Nat → Prop} (h : NodeC w B x M1 M2 o col cvs gvs n) (ht : TwS S w w') (hS : ∀ k, k < w.heap.size → S k → col k ≠ 1 ∧ ¬ Mine o (col k)) (ha : Agree w col col') (hc : Cover w' col') : NodeC w' B x M1 M2 o col' cvs gvs n := by
  have hb : ∀ k c, k < w.heap.size → col k = c → (c = 1 ∨ Mine o c) → w'.heap[k]? = w.heap[k]? := fun k c hk he hm => ht.block k hk fun e => by
    obtain ⟨h1, h2⟩ := hS k hk e
    rcases hm with hm | hm
    · exact h1 (he.trans hm)
    · exact h2 (he ▸ hm)
  refine ⟨h.blk.blocks (hb _ _ h.blk.lt h.cx (.inl rfl)) (hb _ _ h.blk.confs.lt h.cm1 (.inr (mine_map h.odd))) (hb _ _ h.blk.segs.lt h.cm2 (.inr (mine_map h.odd))), h.cs, h.gs, fun q hq => (h.confs q hq).next ht (fun k hk e => (hS k hk e).1) ha, fun i hi => ?_, (ha _ h.blk.lt).trans h.cx, (ha _ h.blk.confs.lt).trans h.cm1, (ha _ h.blk.segs.lt).trans h.cm2, hc, h.odd⟩
  exact (h.segs i hi).keep h.cover (by omega) (fun k hk he => hb k _ hk he (.inr (mine_seg h.odd i))) ha
theorem NodeC.ext (h : NodeC w B x M1 M2 o col cvs gvs n) (hE : Ext w w') : NodeC w' B x M1 M2 o col cvs gvs n :=
  h.frame (S := fun _ => False) (TwS.ext hE) (fun _ _ e => e.elim) (Agree.refl _ _) (h.cover.later hE.size)
theorem IsNode.ext (h : IsNode w B x o col n) (hE : Ext w w') : IsNode w' B x o col n := by
  obtain ⟨M1, M2, cvs, gvs, h⟩ := h
  exact ⟨M1, M2, cvs, gvs, h.ext hE⟩
theorem IsNode.cover (h : IsNode w B x o col n) : Cover w col := by
  obtain ⟨M1, M2, cvs, gvs, h⟩ := h
  exact h.cover
theorem IsNode.odd (h : IsNode w B x o col n) : o < 2 := by
  obtain ⟨M1, M2, cvs, gvs, h⟩ := h
  exact h.odd
/-- The caller turns blocks of its own. -/
theorem IsNode.free (h : IsNode w B x o col n) (ht : TwS (fun k => col k = 0) w w') : IsNode w' B x o col n := by
  obtain ⟨M1, M2, cvs, gvs, h⟩ := h
  exact ⟨M1, M2, cvs, gvs, h.frame ht (fun k _ e => ⟨by omega, fun m => by have := m.1; omega⟩) (Agree.refl _ _) (h.cover.later ht.size)⟩
theorem IsNode.but {q : Nat} (h : IsNode w B x o col n) (hb : But q w w') (hq : col q = 0) : IsNode w' B x o col n := h.free (TwS.but hb hq)
/-- The other node is turned. -/
theorem IsNode.other {o' : Nat} (h : IsNode w B x o col n) (ht : TwS (fun k => Mine o' (col k)) w w') (hn : o' ≠ o) (ha : Agree w col col') (hc : Cover w' col') : IsNode w' B x o col' n := by
  obtain ⟨M1, M2, cvs, gvs, h⟩ := h
  exact ⟨M1, M2, cvs, gvs, h.frame ht (fun k _ e => ⟨fun e1 => by have := e.1; omega, e.ne hn⟩) ha hc⟩

theorem confsOf_fst (l : List (Value × Term.C)) : (confsOf l).map (·.1) = l.map fun q => Value.int .i64 q.2.term := by simp [confsOf]
theorem NodeC.hasConf (h : NodeC w B x M1 M2 o col cvs gvs n) {t : Int} {v : Value} (hm : (Value.int .i64 t, v) ∈ confsOf cvs) : ∃ c, n.conf t = some c ∧ c.term = t ∧ Held w col (fun w' => IsConf w' v c) ∧ c ∈ n.cs := by
  obtain ⟨q, hq, he⟩ := List.mem_map.1 hm
  simp only [Prod.mk.injEq] at he
  obtain ⟨e1, rfl⟩ := he
  have e1 := int_inj e1
  refine ⟨q.2, ?_, e1, h.confs q hq, by rw [← h.cs]; exact List.mem_map_of_mem hq⟩
  unfold Shd.Nd.conf
  rw [← h.cs]
  cases hf : (cvs.map (·.2)).find? (fun c => c.term == t) with
  | none =>
    have := List.find?_eq_none.1 hf q.2 (List.mem_map_of_mem hq)
    simp [e1] at this
  | some c =>
    have h1 := List.mem_of_find?_eq_some hf
    have h2 : c.term = t := by simpa using List.find?_some hf
    obtain ⟨r, hr, rfl⟩ := List.mem_map.1 h1
    obtain ⟨j, hj, rfl⟩ := List.getElem_of_mem hr
    obtain ⟨i, hi, rfl⟩ := List.getElem_of_mem hq
    have hk := h.blk.confs.once
    rw [confsOf_fst] at hk
    have : j = i := by
      refine (List.getElem_inj (h₀ := by simpa using hj) (h₁ := by simpa using hi) hk).1 ?_
      simp [h2, e1]
    subst this
    rfl
theorem NodeC.noConf (h : NodeC w B x M1 M2 o col cvs gvs n) {t : Int} (hm : Value.int .i64 t ∉ (confsOf cvs).map (·.1)) : n.conf t = none := by
  unfold Shd.Nd.conf
  rw [← h.cs]
  refine List.find?_eq_none.2 fun c hc hb => hm ?_
  obtain ⟨q, hq, rfl⟩ := List.mem_map.1 hc
  rw [confsOf_fst]
  have : q.2.term = t := by simpa using hb
  rw [← this]
  exact List.mem_map_of_mem (f := fun q : Value × Term.C => Value.int .i64 q.2.term) hq
theorem NodeC.keysOnce (h : NodeC w B x M1 M2 o col cvs gvs n) : (gvs.map fun q => q.2.1).Nodup := by
  have h1 := h.blk.segs.once
  unfold segsOf at h1
  rw [List.map_map] at h1
  rw [List.nodup_iff_pairwise_ne, List.pairwise_map] at h1 ⊢
  exact h1.imp fun {a b} hab e => hab (by simp only [Function.comp]; rw [e])
theorem NodeC.findAt (h : NodeC w B x M1 M2 o col cvs gvs n) (i : Nat) (hi : i < gvs.length) : n.find gvs[i].2.1.1 gvs[i].2.1.2 = some gvs[i].2.2 := by
  unfold Shd.Nd.find
  rw [← h.gs]
  have hk := h.keysOnce
  cases hf : (gvs.map (·.2)).find? (fun y => y.1 == (gvs[i].2.1.1, gvs[i].2.1.2)) with
  | none =>
    have := List.find?_eq_none.1 hf gvs[i].2 (List.mem_map_of_mem (List.getElem_mem hi))
    simp at this
  | some y =>
    have h1 := List.mem_of_find?_eq_some hf
    have h2 : y.1 = gvs[i].2.1 := by simpa using List.find?_some hf
    obtain ⟨r, hr, rfl⟩ := List.mem_map.1 h1
    obtain ⟨j, hj, rfl⟩ := List.getElem_of_mem hr
    have : j = i := by
      refine (List.getElem_inj (h₀ := by simpa using hj) (h₁ := by simpa using hi) hk).1 ?_
      simpa using h2
    subst this
    rfl
theorem NodeC.hasSeg (h : NodeC w B x M1 M2 o col cvs gvs n) {t k : Int} {v : Value} (hm : (placeV t k, v) ∈ segsOf gvs) : ∃ i, ∃ hi : i < gvs.length, gvs[i].2.1 = (t, k) ∧ v = .pointer (some ⟨gvs[i].1, 0, none⟩) ∧ n.find t k = some gvs[i].2.2 := by
  obtain ⟨q, hq, he⟩ := List.mem_map.1 hm
  simp only [Prod.mk.injEq] at he
  obtain ⟨e1, rfl⟩ := he
  have e1 := placeV_inj e1
  obtain ⟨i, hi, rfl⟩ := List.getElem_of_mem hq
  refine ⟨i, hi, e1, rfl, ?_⟩
  have := h.findAt i hi
  simp only [Prod.mk.injEq] at e1
  rw [e1.1, e1.2] at this
  exact this
theorem NodeC.noSeg (h : NodeC w B x M1 M2 o col cvs gvs n) {t k : Int} (hm : placeV t k ∉ (segsOf gvs).map (·.1)) : n.find t k = none := by
  unfold Shd.Nd.find
  rw [← h.gs, Option.map_eq_none_iff]
  refine List.find?_eq_none.2 fun c hc hb => hm ?_
  obtain ⟨q, hq, rfl⟩ := List.mem_map.1 hc
  have : q.2.1 = (t, k) := by simpa using hb
  unfold segsOf
  rw [List.map_map]
  refine List.mem_map.2 ⟨q, hq, ?_⟩
  simp [Function.comp, this]

theorem set_map {gvs : List (Nat × (Int × Int) × Seg.Sg)} (i : Nat) (hi : i < gvs.length) (G : Seg.Sg) : segsOf (gvs.set i (gvs[i].1, gvs[i].2.1, G)) = segsOf gvs := by
  unfold segsOf
  rw [List.map_set]
  refine List.ext_getElem (by simp) fun j h1 h2 => ?_
  rw [List.getElem_set]
  split
  · next e => subst e; simp
  · rfl
/-- The node with one segment turned. -/
def setSeg (n : Shd.Nd) (i : Nat) (key : Int × Int) (G : Seg.Sg) : Shd.Nd := ⟨n.id, n.cs, n.gs.set i (key, G)⟩
theorem NodeC.turn_is (h : NodeC w B x M1 M2 o col cvs gvs n) (i : Nat) (hi : i < gvs.length) (f : Seg.Sg → Seg.Sg) : (⟨n.id, n.cs, Shd.turn (Shd.at1 gvs[i].2.1 f) n.gs⟩ : Shd.Nd) = setSeg n i gvs[i].2.1 (f gvs[i].2.2) := by
  unfold setSeg
  congr 1
  have hk := h.keysOnce
  rw [← h.gs]
  unfold Shd.turn
  refine List.ext_getElem (by simp) fun j h1 h2 => ?_
  simp only [List.getElem_map, List.getElem_set]
  have hj : j < gvs.length := by simpa using h1
  split
  · next e =>
    subst e
    simp [Shd.at1]
  · next e =>
    have : gvs[j].2.1 ≠ gvs[i].2.1 := fun e1 => e ((List.getElem_inj (h₀ := by simpa using hi) (h₁ := by simpa using hj) hk).1 (by simpa using e1.symm))
    unfold Shd.at1
    rw [if_neg (by simpa using this)]
/-- A call on one segment. -/
theorem NodeC.turned {p : Nat} {va vp lv : Value} {ps : List (Value × Rec.R)} {G' : Seg.Sg} (h : NodeC w B x M1 M2 o col cvs gvs n) (i : Nat) (hi : i < gvs.length) (hs : SegCB w B col (2 * i + 4 + o) gvs[i].1 p va vp lv ps gvs[i].2.2)
    (hL : ∃ va vp lv ps', IsSegS w' B (Later (fun k => col k = 2 * i + 4 + o) w w') gvs[i].1 p va vp lv ps' G' ∧ TagsNew w ps ps') (ht : TwS (fun k => col k = 2 * i + 4 + o) w w') :
    NodeC w' B x M1 M2 o (paint col w w' (2 * i + 4 + o)) cvs (gvs.set i (gvs[i].1, gvs[i].2.1, G')) (setSeg n i gvs[i].2.1 G') := by
  have ha := agree_paint w w' col (2 * i + 4 + o)
  have hno : ∀ k c, k < w.heap.size → col k = c → c ≠ 2 * i + 4 + o → w'.heap[k]? = w.heap[k]? := fun k c hk he hne => ht.block k hk (fun e => hne (he.symm.trans e))
  have ho := h.odd
  refine ⟨?_, h.cs, ?_, fun q hq => (h.confs q hq).next ht (fun k _ e => by omega) ha, fun j hj => ?_, (ha _ h.blk.lt).trans h.cx, (ha _ h.blk.confs.lt).trans h.cm1, (ha _ h.blk.segs.lt).trans h.cm2, cover_paint h.cover ht.size _, h.odd⟩
  · rw [set_map]
    exact h.blk.blocks (hno _ _ h.blk.lt h.cx (by omega)) (hno _ _ h.blk.confs.lt h.cm1 (by omega)) (hno _ _ h.blk.segs.lt h.cm2 (by omega))
  · show _ = n.gs.set i _
    rw [List.map_set, h.gs]
  · have hj' : j < gvs.length := by simpa using hj
    by_cases e : i = j
    · subst e
      simp only [List.getElem_set_self]
      exact hs.later h.cover (by omega) hL
    · simp only [List.getElem_set_ne e]
      exact (h.segs j hj').keep h.cover (by omega) (fun k hk he => hno k _ hk he (by omega)) ha
end
/- Layer 10: what a node finds: finder's closure by the node; Read; Sync and Crash. -/
/-- What a finder tells, by the node. -/
def GivesFindN (w : World) (gvs : List (Nat × (Int × Int) × Seg.Sg)) (n : Shd.Nd) (t k : Int) (e : Ending) (w' : World) : Prop :=
  ((∃ i, ∃ hi : i < gvs.length, e = .returned (.tuple #[.pointer (some ⟨gvs[i].1, 0, none⟩), .bool true]) ∧ gvs[i].2.1 = (t, k) ∧ n.find t k = some gvs[i].2.2) ∨
   (e = .returned (.tuple #[.pointer none, .bool false]) ∧ n.find t k = none)) ∧ Ext w w'
section
variable {w w' : World} {B x M1 M2 o : Nat} {col col' : Nat → Nat} {cvs : List (Value × Term.C)} {gvs : List (Nat × (Int × Int) × Seg.Sg)} {n : Shd.Nd}
theorem NodeC.findN (h : NodeC w B x M1 M2 o col cvs gvs n) {bn bt : Nat} {t k : Int} (ht : (Lit.int .i64 t).wf = true) (hk : (Lit.int .i64 k).wf = true)
    (hbn : w.heap[bn]? = some (.cells #[.pointer (some ⟨x, 0, none⟩)] 37 (0, 0))) (hbt : w.heap[bt]? = some (.cells #[.int .i64 t] 3 (0, 0))) :
    Calls Tryz.prog 100 #[.int .i64 k, .pointer (some ⟨bn, 0, none⟩), .pointer (some ⟨bt, 0, none⟩)] w (GivesFindN w gvs n t k) := by
  refine (find10_any bn bt x M1 M2 B n.id t k _ _ w h.blk ht hk hbn hbt).mono ?_
  rintro e w1 ⟨⟨v, b, rfl, hc⟩, hE⟩
  rcases hc with ⟨rfl, hm⟩ | ⟨rfl, rfl, hm⟩
  · obtain ⟨i, hi, e1, rfl, e2⟩ := h.hasSeg hm
    exact ⟨.inl ⟨i, hi, rfl, e1, e2⟩, hE⟩
  · exact ⟨.inr ⟨rfl, h.noSeg hm⟩, hE⟩
theorem NodeC.find_some (h : NodeC w B x M1 M2 o col cvs gvs n) {t k : Int} {G : Seg.Sg} (hf : n.find t k = some G) : ∃ i, ∃ hi : i < gvs.length, gvs[i].2.1 = (t, k) ∧ gvs[i].2.2 = G := by
  unfold Shd.Nd.find at hf
  rw [← h.gs] at hf
  obtain ⟨y, hy, rfl⟩ := Option.map_eq_some_iff.1 hf
  obtain ⟨r, hr, rfl⟩ := List.mem_map.1 (List.mem_of_find?_eq_some hy)
  obtain ⟨i, hi, rfl⟩ := List.getElem_of_mem hr
  exact ⟨i, hi, by simpa using List.find?_some hy, rfl⟩
theorem NodeC.find_at (h : NodeC w B x M1 M2 o col cvs gvs n) {t k : Int} {i : Nat} {hi : i < gvs.length} (hk : gvs[i].2.1 = (t, k)) : n.find t k = some gvs[i].2.2 := by
  have := h.findAt i hi
  rw [hk] at this
  exact this
theorem NodeC.findN_some (h : NodeC w B x M1 M2 o col cvs gvs n) {bn bt : Nat} {t k : Int} (ht : (Lit.int .i64 t).wf = true) (hk : (Lit.int .i64 k).wf = true)
    (hbn : w.heap[bn]? = some (.cells #[.pointer (some ⟨x, 0, none⟩)] 37 (0, 0))) (hbt : w.heap[bt]? = some (.cells #[.int .i64 t] 3 (0, 0))) {i : Nat} {hi : i < gvs.length} (hkey : gvs[i].2.1 = (t, k)) :
    Calls Tryz.prog 100 #[.int .i64 k, .pointer (some ⟨bn, 0, none⟩), .pointer (some ⟨bt, 0, none⟩)] w fun e w' => e = .returned (.tuple #[.pointer (some ⟨gvs[i].1, 0, none⟩), .bool true]) ∧ Ext w w' := by
  refine (h.findN ht hk hbn hbt).mono ?_
  rintro e w1 ⟨hc, hE⟩
  rcases hc with ⟨j, hj, rfl, e1, _⟩ | ⟨_, hf⟩
  · have : j = i := (List.getElem_inj (h₀ := by simpa using hj) (h₁ := by simpa using hi) h.keysOnce).1 (by simp [e1, hkey])
    subst this
    exact ⟨rfl, hE⟩
  · rw [h.find_at hkey] at hf
    cases hf
theorem NodeC.findN_none (h : NodeC w B x M1 M2 o col cvs gvs n) {bn bt : Nat} {t k : Int} (ht : (Lit.int .i64 t).wf = true) (hk : (Lit.int .i64 k).wf = true)
    (hbn : w.heap[bn]? = some (.cells #[.pointer (some ⟨x, 0, none⟩)] 37 (0, 0))) (hbt : w.heap[bt]? = some (.cells #[.int .i64 t] 3 (0, 0))) (hf : n.find t k = none) :
    Calls Tryz.prog 100 #[.int .i64 k, .pointer (some ⟨bn, 0, none⟩), .pointer (some ⟨bt, 0, none⟩)] w fun e w' => e = .returned (.tuple #[.pointer none, .bool false]) ∧ Ext w w' := by
  refine (h.findN ht hk hbn hbt).mono ?_
  rintro e w1 ⟨hc, hE⟩
  rcases hc with ⟨j, hj, rfl, _, e2⟩ | ⟨rfl, _⟩
  · rw [hf] at e2
    cases e2
  · exact ⟨rfl, hE⟩
end

theorem rec_fill {w : World} {q : Nat} {x0 x1 x2 x3 : Value} (h : w.heap[q]? = some (.cells #[x0, x1, x2, x3] 27 (0, 0))) (y0 y1 y2 y3 : Value) : ∃ w', ((((w.setCell ⟨q, 0, none⟩ y0).setCell ⟨q, 1, none⟩ y1).setCell ⟨q, 2, none⟩ y2).setCell ⟨q, 3, none⟩ y3) = w' ∧
    w'.heap[q]? = some (.cells #[y0, y1, y2, y3] 27 (0, 0)) ∧ But q w w' :=
  ⟨_, rfl, heap_setCell (heap_setCell (heap_setCell (heap_setCell h 0 y0) 1 y1) 2 y2) 3 y3, ((((But.refl q w).setCell 0 none y0).setCell 1 none y1).setCell 2 none y2).setCell 3 none y3⟩
theorem Ext.newQ {q : Nat} {w a b : World} (h : Ext w a) (hq : w.heap.size ≤ q) (hb : But q a b) : Ext w b := Below.trans (B := w.heap.size) h (hb.below hq h.size)
set_option maxHeartbeats 8000000 in
/-- Read: the record, in a row of its own. -/
theorem read10_any {w : World} {B x o : Nat} {col : Nat → Nat} {n : Shd.Nd} (h : IsNode w B x o col n) (t s l : Int) (ht : Wf64 t) (hs : Wf64 s) (hl : -9223372036854775808 ≤ l ∧ l ≤ 9223372036854775807) :
    Calls Tryz.prog 19 #[.pointer (some ⟨x, 0, none⟩), .int .i64 t, .int .i64 s, .int .i64 l] w fun e w' => ∃ v, e = .returned (.tuple #[recV v (n.read t s l).1, .int .i64 (n.read t s l).2]) ∧ RowI w' v (n.read t s l).1.tags ∧ Ext w w' := by
  obtain ⟨M1, M2, cvs, gvs, hN⟩ := h
  have HN := Lib.hid hN
  have HT := Lib.hid (And.intro ht (And.intro hs hl))
  clear hN ht hs hl
  go_enter Tryz.func19, Tryz.ntmps19
  go_upto_region 1 with fail
  obtain ⟨w0, hw0⟩ : ∃ w0, w.alloc (.cells #[.int .i64 0, .int .i64 0, .slice none 0 0, .string ⟨#[]⟩] 27) = w0 := ⟨_, rfl⟩
  have hE0 : Ext w w0 := by rw [← hw0]; exact Ext.alloc _ _
  have hx0 : w0.heap[w.heap.size]? = some (.cells #[.int .i64 0, .int .i64 0, .slice none 0 0, .string ⟨#[]⟩] 27 (0, 0)) := by rw [← hw0]; exact heap_alloc_new _ _
  rw [hw0]
  obtain ⟨q, hq⟩ : ∃ q, w.heap.size = q := ⟨_, rfl⟩
  rw [hq] at hx0 ⊢
  have HE0 := Lib.hid (And.intro hE0 hx0)
  have HQ := Lib.hid hq
  clear hw0 hE0 hx0 hq
  go_wp2_with fail
  refine (finder10_any x t w0).mono ?_
  rintro e w1 ⟨rfl, hE1, hb1, hb2, hs1⟩
  have HB := Lib.hid (And.intro hb1 hb2)
  have HE1 := Lib.hid hE1
  clear hb1 hb2 hE1 hs1
  go_wp2_with fail
  refine (((HN.out.ext (HE0.out.1.trans HE1.out)).findN (t := t) (k := s) HT.out.1 HT.out.2.1 HB.out.1 HB.out.2)).mono ?_
  rintro e w2 ⟨hc, hE2⟩
  have HE2 := Lib.hid (HE1.out.trans hE2)
  have HX2 := Lib.hid (heap_ext HE0.out.2 HE2.out)
  have m0 := cell_of_heap HX2.out 0
  have m1 := cell_of_heap HX2.out 1
  have m2 := cell_of_heap HX2.out 2
  have m3 := cell_of_heap HX2.out 3
  have mf := fun i => frozen_of_heap HX2.out i
  simp at m0 m1 m2 m3
  clear hE2
  rcases hc with ⟨i, hi, rfl, hkey, hf⟩ | ⟨rfl, hf⟩
  · obtain ⟨p, va, vp, lv, ps, hs9⟩ := (HN.out.ext (HE0.out.1.trans HE2.out)).segs i hi
    have hg := hs9.seg.full
    obtain ⟨va, vp, lv, ps, hg⟩ := hg
    obtain ⟨g, hgg⟩ : ∃ g, gvs[i].1 = g := ⟨_, rfl⟩
    obtain ⟨G, hG⟩ : ∃ G, gvs[i].2.2 = G := ⟨_, rfl⟩
    rw [hG] at hf hg
    rw [hgg] at hg ⊢
    have HG := Lib.hid hg
    have hr : n.read t s l = (G.getRec l, G.getErr l) := by
      unfold Shd.Nd.read
      rw [hf]
    have HR := Lib.hid hr
    clear hr hf hg hgg hG hs9 hkey hi
    go_wp2_with fail
    refine (get9_any HG.out (Nat.le_refl _) l HT.out.2.2).mono ?_
    rintro e w3 ⟨v, rfl, hv, hE3⟩
    have HV := Lib.hid (And.intro hv hE3)
    have hX3 := heap_ext HX2.out hE3
    obtain ⟨ua, un, uc, hu⟩ := hv.ints.isSlice
    subst hu
    simp only [recV]
    clear m0 m1 m2 m3 mf hv hE3
    obtain ⟨y0, hy0⟩ : ∃ q : Int, (G.getRec l).client = q := ⟨_, rfl⟩
    obtain ⟨y1, hy1⟩ : ∃ q : Int, (G.getRec l).number = q := ⟨_, rfl⟩
    obtain ⟨y3, hy3⟩ : ∃ q : ByteArray, (⟨(G.getRec l).data.toArray⟩ : ByteArray) = q := ⟨_, rfl⟩
    obtain ⟨y4, hy4⟩ : ∃ q : Int, G.getErr l = q := ⟨_, rfl⟩
    rw [hy0, hy1, hy3, hy4]
    have HY := Lib.hid (And.intro hy0 (And.intro hy1 (And.intro hy3 hy4)))
    have m0 := cell_of_heap hX3 0
    have m1 := cell_of_heap hX3 1
    have m2 := cell_of_heap hX3 2
    have m3 := cell_of_heap hX3 3
    have mf := fun i => frozen_of_heap hX3 i
    have HX3 := Lib.hid hX3
    simp at m0 m1 m2 m3
    clear hy0 hy1 hy3 hy4 hX3
    go_wp2_with fail
    obtain ⟨w9, hw9, h9, hB9⟩ := rec_fill HX3.out (.int .i64 y0) (.int .i64 y1) (.slice ua un uc) (.string y3)
    have n0 := cell_of_heap h9 0
    have n1 := cell_of_heap h9 1
    have n2 := cell_of_heap h9 2
    have n3 := cell_of_heap h9 3
    simp at n0 n1 n2 n3
    rw [hw9]
    refine bodyPost_ret (v := .tuple #[.agg #[.int .i64 y0, .int .i64 y1, .slice ua un uc, .string y3], .int .i64 y4]) (by simp [results, Tryz.results19, go_sem, n0, n1, n2, n3]) rfl ?_
    obtain ⟨e0, e1, e3, e4⟩ := HY.out
    refine ⟨.slice ua un uc, by rw [HR.out]; simp only [recV, e0, e1, e3, e4], ?_, Ext.newQ ((HE0.out.1.trans HE2.out).trans HV.out.2) (by have := HQ.out; omega) hB9⟩
    rw [HR.out]
    exact HV.out.1.but HX3.out (by decide) hB9
  · have hr : n.read t s l = (Seg.zeroR, 100) := by
      unfold Shd.Nd.read
      rw [hf]
    have HR := Lib.hid hr
    clear hr hf
    go_wp2_with fail
    obtain ⟨w9, hw9, h9, hB9⟩ := rec_fill HX2.out (.int .i64 0) (.int .i64 0) (.slice none 0 0) (.string ⟨#[]⟩)
    have n0 := cell_of_heap h9 0
    have n1 := cell_of_heap h9 1
    have n2 := cell_of_heap h9 2
    have n3 := cell_of_heap h9 3
    simp at n0 n1 n2 n3
    rw [hw9]
    refine bodyPost_ret (v := .tuple #[.agg #[.int .i64 0, .int .i64 0, .slice none 0 0, .string ⟨#[]⟩], .int .i64 100]) (by simp [results, Tryz.results19, go_sem, n0, n1, n2, n3]) rfl ?_
    refine ⟨.slice none 0 0, by rw [HR.out]; rfl, by rw [HR.out]; exact RowI.nil _, Ext.newQ (HE0.out.1.trans HE2.out) (by have := HQ.out; omega) hB9⟩

/-- What a call on a node leaves: a colouring that goes on. -/
def LeavesNode (B x o : Nat) (col : Nat → Nat) (w : World) (n' : Shd.Nd) (w' : World) : Prop := ∃ col', IsNode w' B x o col' n' ∧ TwS (fun k => Mine o (col k)) w w' ∧ Agree w col col'
def pairOf (q : Nat × (Int × Int) × Seg.Sg) : Value × Value := (placeV q.2.1.1 q.2.1.2, .pointer (some ⟨q.1, 0, none⟩))
theorem segsOf_pairs (l : List (Nat × (Int × Int) × Seg.Sg)) : segsOf l = l.map pairOf := rfl
/-- A round over all segments: those that are left are as they were, the others are turned by F. -/
structure Round10 (w : World) (B x M1 M2 o : Nat) (col : Nat → Nat) (cvs : List (Value × Term.C)) (gvs : List (Nat × (Int × Int) × Seg.Sg)) (id : Int) (cs : List Term.C) (F : Seg.Sg → Seg.Sg) (r : Nat) (left : List (Value × Value)) (wr : World) (col' : Nat → Nat) (gvs' : List (Nat × (Int × Int) × Seg.Sg)) : Prop where
  node : NodeC wr B x M1 M2 o col' cvs gvs' ⟨id, cs, gvs'.map (·.2)⟩
  tw : TwS (fun k => Mine o (col k)) w wr
  ag : Agree w col col'
  len : gvs'.length = gvs.length
  same : ∀ i (h : i < gvs.length) (h' : i < gvs'.length), gvs'[i].1 = gvs[i].1 ∧ gvs'[i].2.1 = gvs[i].2.1 ∧ (pairOf gvs[i] ∈ left → gvs'[i].2.2 = gvs[i].2.2) ∧ (pairOf gvs[i] ∉ left → gvs'[i].2.2 = F gvs[i].2.2)
  nodup : left.Nodup
  ring : RangeB wr M2 r (segsOf gvs) left
  r0 : col' r = 0
  rnew : w.heap.size ≤ r
  once : (segsOf gvs).Nodup
theorem grown_but {w w' : World} {r : Nat} (h : w.grownBy w' (some r)) : But r w w' := ⟨h.os, h.tape, h.output, h.size, fun k hk hn => h.block k hk (fun e => hn (by injection e))⟩
section
variable {w w' wr : World} {B x M1 M2 o r : Nat} {col col' : Nat → Nat} {cvs : List (Value × Term.C)} {gvs gvs' : List (Nat × (Int × Int) × Seg.Sg)} {n : Shd.Nd} {id : Int} {cs : List Term.C} {F : Seg.Sg → Seg.Sg} {left : List (Value × Value)}
theorem NodeC.but0 {q : Nat} (h : NodeC w B x M1 M2 o col cvs gvs n) (hb : But q w w') (hq : col q = 0) : NodeC w' B x M1 M2 o col cvs gvs n :=
  h.frame (S := fun k => k = q) (TwS.but hb rfl) (fun k _ e => by subst e; rw [hq]; exact ⟨by omega, fun m => by have := m.1; omega⟩) (Agree.refl _ _) (h.cover.later hb.size)
theorem pairs_nodup (h : NodeC w B x M1 M2 o col cvs gvs n) : (segsOf gvs).Nodup := by
  have h1 := h.blk.segs.once
  rw [List.nodup_iff_pairwise_ne, List.pairwise_map] at h1
  rw [List.nodup_iff_pairwise_ne]
  exact h1.imp fun {a b} hab e => hab (by rw [e])
theorem Round10.start (h : NodeC w B x M1 M2 o col cvs gvs n) {w1 : World} (hr : RangeB w1 M2 w.heap.size (segsOf gvs) (segsOf gvs)) (hg : w.grownBy w1 none) : Round10 w B x M1 M2 o col cvs gvs n.id n.cs F w.heap.size (segsOf gvs) w1 col gvs := by
  have hE : Ext w w1 := ⟨hg.os, hg.tape, hg.output, hg.size, fun k hk => hg.block k hk (by simp)⟩
  refine ⟨?_, TwS.ext hE, Agree.refl _ _, rfl, fun i hi _ => ⟨rfl, rfl, fun _ => rfl, fun hn => absurd (List.mem_map_of_mem (List.getElem_mem hi)) hn⟩, pairs_nodup h, hr, ?_, Nat.le_refl _, pairs_nodup h⟩
  · have := h.ext hE
    rw [h.gs]
    exact this
  · exact Classical.byContradiction fun hc => absurd (h.cover _ hc) (Nat.lt_irrefl _)
theorem Round10.step (h : Round10 w B x M1 M2 o col cvs gvs id cs F r left wr col' gvs') {l1 l2 : List (Value × Value)} {q : Value × Value} (hl : left = l1 ++ q :: l2) (hq : q ∈ segsOf gvs) (hR : RangeB w' M2 r (segsOf gvs) (l1 ++ l2)) (hg : wr.grownBy w' (some r)) :
    ∃ i, ∃ hi : i < gvs.length, ∃ hi' : i < gvs'.length, q.2 = .pointer (some ⟨gvs[i].1, 0, none⟩) ∧ gvs'[i].1 = gvs[i].1 ∧ gvs'[i].2.2 = gvs[i].2.2 ∧ NodeC w' B x M1 M2 o col' cvs gvs' ⟨id, cs, gvs'.map (·.2)⟩ ∧
      ∀ (p : Nat) (va vp lv : Value) (ps : List (Value × Rec.R)) (w4 : World), SegCB w' B col' (2 * i + 4 + o) gvs'[i].1 p va vp lv ps gvs'[i].2.2 →
        (∃ va vp lv ps', IsSegS w4 B (Later (fun k => col' k = 2 * i + 4 + o) w' w4) gvs'[i].1 p va vp lv ps' (F gvs[i].2.2) ∧ TagsNew w' ps ps') → TwS (fun k => col' k = 2 * i + 4 + o) w' w4 →
        Round10 w B x M1 M2 o col cvs gvs id cs F r (l1 ++ l2) w4 (paint col' w' w4 (2 * i + 4 + o)) (gvs'.set i (gvs'[i].1, gvs'[i].2.1, F gvs[i].2.2)) := by
  have hb := grown_but hg
  have hN := h.node.but0 hb h.r0
  obtain ⟨z, hz, hze⟩ := List.mem_map.1 hq
  obtain ⟨i, hi, rfl⟩ := List.getElem_of_mem hz
  have hi' : i < gvs'.length := by rw [h.len]; exact hi
  have hpe : pairOf gvs[i] = q := hze
  obtain ⟨s1, s2, s3, s4⟩ := h.same i hi hi'
  have s3 := s3 (by rw [hpe, hl]; simp)
  have hnd := h.nodup
  rw [hl] at hnd
  have hnot : q ∉ l1 ++ l2 := by
    have := (List.perm_middle (a := q) (l₁ := l1) (l₂ := l2)).nodup_iff.1 hnd
    exact (List.nodup_cons.1 this).1
  refine ⟨i, hi, hi', by rw [← hpe]; rfl, s1, s3, hN, fun p va vp lv ps w4 hs hL ht => ?_⟩
  have hT := hN.turned (G' := F gvs[i].2.2) i hi' hs hL ht
  have ho := h.node.odd
  have hrl := hR.lt
  have hw' : ∀ k c, k < w'.heap.size → col' k = c → c ≠ 2 * i + 4 + o → w4.heap[k]? = w'.heap[k]? := fun k c hk he hne => ht.block k hk (fun e => hne (he.symm.trans e))
  refine ⟨?_, ?_, ?_, by simp [h.len], fun j hj hj' => ?_, ?_, hR.blocks (hw' M2 _ hrl.1 hN.cm2 (by omega)) (hw' r _ hrl.2.1 h.r0 (by omega)), (agree_paint _ _ _ _ r hrl.2.1).trans h.r0, h.rnew, h.once⟩
  · have e : setSeg ⟨id, cs, gvs'.map (·.2)⟩ i gvs'[i].2.1 (F gvs[i].2.2) = ⟨id, cs, (gvs'.set i (gvs'[i].1, gvs'[i].2.1, F gvs[i].2.2)).map (·.2)⟩ := by
      unfold setSeg
      simp [List.map_set]
    rw [e] at hT
    exact hT
  · refine (h.tw.then (TwS.but hb rfl) (T := fun k => k = r) fun k hk e => ?_).then (T := fun k => col' k = 2 * i + 4 + o) ht fun k hk e => ?_
    · exfalso
      have := h.rnew
      omega
    · show Mine o (col k)
      rw [← h.ag k hk]
      rw [e]
      exact mine_seg ho i
  · exact h.ag.trans (w1 := wr) (fun k hk => agree_paint w' w4 col' _ k (Nat.lt_of_lt_of_le hk hg.size)) h.tw.size
  · have hj2 : j < gvs'.length := by simpa using hj'
    obtain ⟨t1, t2, t3, t4⟩ := h.same j hj hj2
    by_cases e : i = j
    · subst e
      simp only [List.getElem_set_self]
      exact ⟨s1, s2, fun hm => absurd (hpe ▸ hm) hnot, fun _ => trivial⟩
    · simp only [List.getElem_set_ne e]
      have hne : pairOf gvs[j] ≠ q := fun e1 => e ((List.getElem_inj (h₀ := by simpa [segsOf] using hi) (h₁ := by simpa [segsOf] using hj) h.once).1 (by simp only [segsOf_pairs, List.getElem_map]; rw [hpe, e1]))
      refine ⟨t1, t2, fun hm => t3 ?_, fun hm => t4 fun hm2 => hm ?_⟩
      · rw [hl]
        rcases List.mem_append.1 hm with h1 | h1
        · exact List.mem_append_left _ h1
        · exact List.mem_append_right _ (List.mem_cons_of_mem _ h1)
      · rw [hl] at hm2
        rcases List.mem_append.1 hm2 with h1 | h1
        · exact List.mem_append_left _ h1
        · rcases List.mem_cons.1 h1 with h2 | h2
          · exact absurd h2 hne
          · exact List.mem_append_right _ h2
  · have := (List.perm_middle (a := q) (l₁ := l1) (l₂ := l2)).nodup_iff.1 hnd
    exact (List.nodup_cons.1 this).2
theorem Round10.done (h : Round10 w B x M1 M2 o col cvs gvs id cs F r [] wr col' gvs') (hg : gvs.map (·.2) = n.gs) (hi : id = n.id) (hc : cs = n.cs) : LeavesNode B x o col w ⟨n.id, n.cs, Shd.turn (fun _ G => F G) n.gs⟩ wr := by
  refine ⟨col', ⟨M1, M2, cvs, gvs', ?_⟩, h.tw, h.ag⟩
  have e : Shd.turn (fun _ G => F G) n.gs = gvs'.map (·.2) := by
    rw [← hg]
    refine List.ext_getElem (by simp [Shd.turn, h.len]) fun i h1 h2 => ?_
    have hi2 : i < gvs'.length := by simpa using h2
    obtain ⟨s1, s2, s3, s4⟩ := h.same i (by rw [← h.len]; exact hi2) hi2
    simp only [Shd.turn, List.getElem_map]
    rw [← s4 (by simp), ← s2]
  rw [e, ← hi, ← hc]
  exact h.node
end
def leftCount (w : World) (b r : Nat) : Nat := match w.heap[b]?, w.heap[r]? with
  | some (.map es _), some (.mapIter _ _ seen _) => (leftOf es seen).size
  | _, _ => 0
theorem RangeB.count {w : World} {b r : Nat} {m left : List (Value × Value)} (h : RangeB w b r m left) : leftCount w b r = left.length := by
  obtain ⟨es, clock, since, seen, c0, e1, e2, _, _, _, _, _, e3⟩ := h
  unfold leftCount
  rw [e1, e2]
  simp only
  rw [← e3]
  simp
set_option maxHeartbeats 8000000 in
theorem sync10_any {w : World} {B x o : Nat} {col : Nat → Nat} {n : Shd.Nd} (h : IsNode w B x o col n) (hi : Shd.Inv n) :
    Calls Tryz.prog 51 #[.pointer (some ⟨x, 0, none⟩)] w fun e w' => e = .returned (.tuple #[]) ∧ LeavesNode B x o col w n.sync w' := by
  obtain ⟨M1, M2, cvs, gvs, hN⟩ := h
  have HN := Lib.hid hN
  have HI := Lib.hid hi
  have k2 := cell_of_heap hN.blk.heap 2
  simp at k2
  obtain ⟨w1, hrun, hR, hg, hs⟩ := hN.blk.segs.range Tryz.underlying116
  have HS := Lib.hid (Round10.start (F := fun G => G.sync) hN hR hg)
  clear hN hi hR hg hs
  go_enter Tryz.func51, Tryz.ntmps51
  go_wp2_with fail
  clear hrun k2
  obtain ⟨r, hr⟩ : ∃ r, w.heap.size = r := ⟨_, rfl⟩
  rw [hr] at HS ⊢
  clear hr
  go_loopw [3] (fun _ wr => ∃ left col' gvs', Hid (Round10 w B x M1 M2 o col cvs gvs n.id n.cs (fun G => G.sync) r left wr col' gvs')) (fun _ wr => leftCount wr M2 r)
  case atStart => exact ⟨_, _, _, HS⟩
  case round =>
    obtain ⟨left, col', gvs', H⟩ := hrel
    rcases H.out.ring.next (P := Tryz.prog) 0 with ⟨rfl, hrun⟩ | ⟨l1, q, l2, w2, hl, hq, hrun, hR2, hg2, hs2, hent⟩
    · have HEND := Lib.hid (H.out.done HN.out.gs rfl rfl)
      go_wp2_with fail
      go_end0
      exact ⟨rfl, HEND.out⟩
    · obtain ⟨i, hi, hi', hqp, hg1, hG1, hN2, hstep⟩ := H.out.step hl hq hR2 hg2
      obtain ⟨p, va, vp, lv, ps, hs⟩ := hN2.segs i hi'
      have hok : gvs[i].2.2.Ok := (HI.out gvs[i].2 (by rw [← HN.out.gs]; exact List.mem_map_of_mem (List.getElem_mem hi))).1
      have hcall := sync9S hs.seg (by rw [hG1]; exact hok)
      rw [hG1, hg1] at hcall
      have hstep := fun w4 => hstep p va vp lv ps w4 hs
      rw [hg1] at hstep
      obtain ⟨g, hgg⟩ : ∃ g, gvs[i].1 = g := ⟨_, rfl⟩
      rw [hgg] at hqp hcall hstep
      have HC := Lib.hid hcall
      have HST := Lib.hid hstep
      have HM := Lib.hid (show leftCount wr M2 r = (l1 ++ l2).length + 1 by rw [H.out.ring.count, hl]; simp; omega)
      obtain ⟨qk, qv⟩ := q
      simp only at hqp
      subst hqp
      simp only at hrun hent
      clear hcall hstep hs hok hN2 hq hR2 hg2 hs2 hG1 hg1 hgg hl
      go_wp2_with fail
      refine HC.out.mono ?_
      rintro e w4 ⟨rfl, hL, ht, _⟩
      have hnew := HST.out w4 hL ht
      have HN4 := Lib.hid hnew
      have HM4 := Lib.hid (show leftCount w4 M2 r = (l1 ++ l2).length from hnew.ring.count)
      clear hL ht hnew hrun hent
      go_wp2_with fail
      go_roundw
      case rel => exact ⟨_, _, _, HN4⟩
      case measure => rw [HM.out, HM4.out]; omega
set_option maxHeartbeats 8000000 in
theorem crash10_any {w : World} {B x o : Nat} {col : Nat → Nat} {n : Shd.Nd} (h : IsNode w B x o col n) (keep : Int) (hk : -9223372036854775808 ≤ keep ∧ keep ≤ 9223372036854775807) :
    Calls Tryz.prog 18 #[.pointer (some ⟨x, 0, none⟩), .int .i64 keep] w fun e w' => e = .returned (.tuple #[]) ∧ LeavesNode B x o col w (n.crash keep) w' := by
  obtain ⟨M1, M2, cvs, gvs, hN⟩ := h
  have HN := Lib.hid hN
  have HI := Lib.hid hk
  have k2 := cell_of_heap hN.blk.heap 2
  simp at k2
  obtain ⟨w1, hrun, hR, hg, hs⟩ := hN.blk.segs.range Tryz.underlying116
  have HS := Lib.hid (Round10.start (F := fun G => G.crash keep) hN hR hg)
  clear hN hk hR hg hs
  go_enter Tryz.func18, Tryz.ntmps18
  go_wp2_with fail
  clear hrun k2
  obtain ⟨r, hr⟩ : ∃ r, w.heap.size = r := ⟨_, rfl⟩
  rw [hr] at HS ⊢
  clear hr
  go_loopw [5] (fun _ wr => ∃ left col' gvs', Hid (Round10 w B x M1 M2 o col cvs gvs n.id n.cs (fun G => G.crash keep) r left wr col' gvs')) (fun _ wr => leftCount wr M2 r)
  case atStart => exact ⟨_, _, _, HS⟩
  case round =>
    obtain ⟨left, col', gvs', H⟩ := hrel
    rcases H.out.ring.next (P := Tryz.prog) 0 with ⟨rfl, hrun⟩ | ⟨l1, q, l2, w2, hl, hq, hrun, hR2, hg2, hs2, hent⟩
    · have HEND := Lib.hid (H.out.done HN.out.gs rfl rfl)
      go_wp2_with fail
      go_end0
      exact ⟨rfl, HEND.out⟩
    · obtain ⟨i, hi, hi', hqp, hg1, hG1, hN2, hstep⟩ := H.out.step hl hq hR2 hg2
      obtain ⟨p, va, vp, lv, ps, hs⟩ := hN2.segs i hi'
      have hcall := crash9S hs.seg keep HI.out
      rw [hG1, hg1] at hcall
      have hstep := fun w4 => hstep p va vp lv ps w4 hs
      rw [hg1] at hstep
      obtain ⟨g, hgg⟩ : ∃ g, gvs[i].1 = g := ⟨_, rfl⟩
      rw [hgg] at hqp hcall hstep
      have HC := Lib.hid hcall
      have HST := Lib.hid hstep
      have HM := Lib.hid (show leftCount wr M2 r = (l1 ++ l2).length + 1 by rw [H.out.ring.count, hl]; simp; omega)
      obtain ⟨qk, qv⟩ := q
      simp only at hqp
      subst hqp
      simp only at hrun hent
      clear hcall hstep hs hN2 hq hR2 hg2 hs2 hG1 hg1 hgg hl
      go_wp2_with fail
      refine HC.out.mono ?_
      rintro e w4 ⟨rfl, hL, ht, _⟩
      have hnew := HST.out w4 hL ht
      have HN4 := Lib.hid hnew
      have HM4 := Lib.hid (show leftCount w4 M2 r = (l1 ++ l2).length from hnew.ring.count)
      clear hL ht hnew hrun hent
      go_wp2_with fail
      go_roundw
      case rel => exact ⟨_, _, _, HN4⟩
      case measure => rw [HM.out, HM4.out]; omega
/- Layer 10: Take. -/
theorem IsMsg.cells {w : World} {m : Msg.M} {rt et sv dv : Value} (h : IsMsg w (.agg (msgCells m rt et sv dv)) m) : Ints w rt m.reco.tags ∧ Ints w et m.ent.cut ∧ Ints w sv m.conf.seqs ∧ IRows w dv m.conf.shards := by
  obtain ⟨a, b, c, d, e, h1, h2, h3, h4⟩ := h
  injection e with e
  simp [msgCells] at e
  obtain ⟨rfl, rfl, rfl, rfl⟩ := e
  exact ⟨h1, h2, h3, h4⟩
theorem headBounds {m : Msg.M} (h : Msg.right m = true) : (1 ≤ m.term ∧ m.term ≤ 64) ∧ (0 ≤ m.number ∧ m.number ≤ 1099511627776) ∧ (0 ≤ m.shard ∧ m.shard ≤ 7) := by
  unfold Msg.right Msg.headOk at h
  simp only [Bool.and_eq_true, decide_eq_true_eq] at h
  exact ⟨h.1.2.2.1, h.1.2.2.2.1, h.1.2.2.2.2⟩
theorem wfOf {x : Int} (h : -9223372036854775808 ≤ x ∧ x ≤ 9223372036854775807) : Wf64 x := by
  show (decide (IntKind.i64.min ≤ x) && decide (x ≤ IntKind.i64.max)) = true
  rw [Bool.and_eq_true, decide_eq_true_eq, decide_eq_true_eq]
  exact h
/-- What Take tells. -/
def GivesTake (B x o : Nat) (col : Nat → Nat) (w : World) (r : Shd.Nd × Msg.M × Int) (e : Ending) (w' : World) : Prop :=
  e = .returned (.tuple #[.agg (msgCells r.2.1 (.slice none 0 0) (.slice none 0 0) (.slice none 0 0) (.slice none 0 0)), .int .i64 r.2.2]) ∧ LeavesNode B x o col w r.1 w'
theorem take_bad {n : Shd.Nd} {m : Msg.M} (h : m.kind ≠ 1 ∨ m.dst ≠ n.id ∨ Msg.right m = false) : n.take m = (n, Msg.none0, 1) := by
  unfold Shd.Nd.take
  rw [if_pos h]
theorem take_lost {n : Shd.Nd} {m : Msg.M} (h : ¬(m.kind ≠ 1 ∨ m.dst ≠ n.id ∨ Msg.right m = false)) (hf : n.find m.term m.shard = none) : n.take m = (n, Msg.none0, 100) := by
  unfold Shd.Nd.take
  rw [if_neg h, hf]
theorem take_above {n : Shd.Nd} {m : Msg.M} {G : Seg.Sg} (h : ¬(m.kind ≠ 1 ∨ m.dst ≠ n.id ∨ Msg.right m = false)) (hf : n.find m.term m.shard = some G) (h91 : G.appErr m.number m.reco = 91) : n.take m = (n, Msg.none0, 101) := by
  unfold Shd.Nd.take
  rw [if_neg h, hf]
  simp only
  rw [if_pos h91]
theorem take_done {n : Shd.Nd} {m : Msg.M} {G : Seg.Sg} (h : ¬(m.kind ≠ 1 ∨ m.dst ≠ n.id ∨ Msg.right m = false)) (hf : n.find m.term m.shard = some G) (h91 : G.appErr m.number m.reco ≠ 91) :
    n.take m = (⟨n.id, n.cs, Shd.turn (Shd.at1 (m.term, m.shard) fun G => (G.app m.number m.reco).sync) n.gs⟩, if G.appErr m.number m.reco = 0 then Shd.kept n m (G.app m.number m.reco).sync.safe else Msg.none0, G.appErr m.number m.reco) := by
  unfold Shd.Nd.take
  rw [if_neg h, hf]
  simp only
  rw [if_neg h91]
theorem app91 {G : Seg.Sg} {n : Int} {r : Rec.R} (h : G.appErr n r = 91) : G.app n r = G := by
  unfold Seg.Sg.appErr at h
  unfold Seg.Sg.app
  cases hc : G.case n r with
  | next =>
    rw [hc] at h
    simp only at h
    unfold Page.St.appendErr at h
    split at h
    · cases h
    · split at h <;> cases h
  | _ => rfl
theorem LeavesNode.refl {B x o : Nat} {col : Nat → Nat} {w w' : World} {n : Shd.Nd} (h : IsNode w B x o col n) (hE : Ext w w') : LeavesNode B x o col w n w' := ⟨col, h.ext hE, TwS.ext hE, Agree.refl _ _⟩
theorem Agree.earlier {w w1 : World} {col col' : Nat → Nat} (h : Agree w1 col col') (hs : w.heap.size ≤ w1.heap.size) : Agree w col col' := fun k hk => h k (Nat.lt_of_lt_of_le hk hs)
/-- What a call leaves that turns a new block of its own behind. -/
def LeavesQ (B x o : Nat) (col : Nat → Nat) (w : World) (n' : Shd.Nd) (w' : World) (q : Nat) : Prop := ∃ col', IsNode w' B x o col' n' ∧ TwS (fun k => Mine o (col k)) w w' ∧ Agree w col col' ∧ col' q = 0
theorem LeavesQ.but {B x o q : Nat} {col : Nat → Nat} {w w1 w2 : World} {n : Shd.Nd} (h : LeavesQ B x o col w n w1 q) (hq : w.heap.size ≤ q) (hb : But q w1 w2) : LeavesNode B x o col w n w2 := by
  obtain ⟨col', h1, h2, h3, h4⟩ := h
  exact ⟨col', h1.but hb h4, h2.then (TwS.but (S := fun k => k = q) hb rfl) (fun k hk e => by omega), h3⟩
theorem LeavesQ.ext {B x o q : Nat} {col : Nat → Nat} {w w1 w2 : World} {n : Shd.Nd} (h : LeavesQ B x o col w n w1 q) (hE : Ext w1 w2) : LeavesQ B x o col w n w2 q := by
  obtain ⟨col', h1, h2, h3, h4⟩ := h
  exact ⟨col', h1.ext hE, h2.trans (TwS.ext hE), h3, h4⟩
theorem NodeC.setSeg_id {w : World} {B x M1 M2 o : Nat} {col : Nat → Nat} {cvs : List (Value × Term.C)} {gvs : List (Nat × (Int × Int) × Seg.Sg)} {n : Shd.Nd} (h : NodeC w B x M1 M2 o col cvs gvs n) (i : Nat) (hi : i < gvs.length) : setSeg n i gvs[i].2.1 gvs[i].2.2 = n := by
  unfold setSeg
  have e : n.gs.set i (gvs[i].2.1, gvs[i].2.2) = n.gs := by
    rw [← h.gs]
    refine List.ext_getElem (by simp) fun j h1 h2 => ?_
    rw [List.getElem_set]
    split
    · next e => subst e; simp
    · rfl
  rw [e]
theorem build_kept (w : World) (a b c d : Int) (k : Int) : (Instr.build 50 #[(0, .int .i64 2), (1, .int .i64 a), (2, .int .i64 b), (3, .int .i64 c), (4, .int .i64 d), (5, .int .i64 k)]).run Tryz.prog w = .ok (.agg (msgCells ⟨2, a, b, c, d, k, false, Msg.rec0, Msg.ent0, 0, 0, Msg.conf0⟩ (.slice none 0 0) (.slice none 0 0) (.slice none 0 0) (.slice none 0 0))) w := by kernel_rfl

set_option maxHeartbeats 40000000 in
theorem take10_any {w : World} {B x o : Nat} {col : Nat → Nat} {n : Shd.Nd} (h : IsNode w B x o col n) (hi : Shd.Inv n) (v : Value) (m : Msg.M) (hv : ∀ w', TwS (fun k => col k ≠ 0) w w' → IsMsg w' v m) :
    Calls Tryz.prog 15 #[.pointer (some ⟨x, 0, none⟩), v] w (GivesTake B x o col w (n.take m)) := by
  have hbx := box_msg
  have hbd0 := build_msg0
  obtain ⟨a0, n0, k0, a1, n1, k1, a2, n2, k2, a3, n3, k3, rfl, _⟩ := (hv w (TwS.ext (Ext.refl w))).opened
  obtain ⟨M1, M2, cvs, gvs, hN⟩ := h
  have HN := Lib.hid hN
  have HI := Lib.hid hi
  have HV := Lib.hid hv
  have hq0 : ∀ j, col (w.heap.size + j) = 0 := fun j => Classical.byContradiction fun hc => by have := hN.cover _ hc; omega
  have HQ0 := Lib.hid hq0
  obtain ⟨id, hid⟩ : ∃ i, n.id = i := ⟨_, rfl⟩
  have HID := Lib.hid hid
  have HX := Lib.hid hN.blk.heap
  rw [hid] at HX
  clear hN hi hv hq0 hid
  go_enter Tryz.func15, Tryz.ntmps15
  go_wp2_with (refine allocM (by rfl) rfl ?_; intro W1 q1 hat1 hE1 hq1)
  obtain ⟨q, hq⟩ : ∃ q, w.heap.size = q := ⟨_, rfl⟩
  have hq1' := hq1.out
  rw [World.size_alloc, hq] at hq1'
  subst hq1'
  have hE1' := (Ext.alloc w (.cells (msgCells m (.slice a0 n0 k0) (.slice a1 n1 k1) (.slice a2 n2 k2) (.slice a3 n3 k3)) 50)).trans hE1.out
  have hm1 := (MsgAt.new 50 w m (.slice a0 n0 k0) (.slice a1 n1 k1) (.slice a2 n2 k2) (.slice a3 n3 k3)).ext hE1.out
  rw [hq] at hm1 ⊢
  have HE1 := Lib.hid hE1'
  have HM1 := Lib.hid hm1
  have HQ := Lib.hid hq
  have hx1 := heap_ext HX.out hE1'
  have HX1 := Lib.hid hx1
  have HN1 := Lib.hid (HN.out.ext hE1')
  clear hq hE1 hq1 hE1' hm1 hbx
  have hc := fun w' (h : Ext W1 w') => (HM1.out.ext h).head
  have hxc := fun w' (h : Ext W1 w') => cell_of_heap (heap_ext HX1.out h) 0
  obtain ⟨kd, hkd⟩ : ∃ z, m.kind = z := ⟨_, rfl⟩
  obtain ⟨ds, hds⟩ : ∃ z, m.dst = z := ⟨_, rfl⟩
  rw [hkd, hds] at hc
  have HK := Lib.hid (And.intro hkd hds)
  have HC := Lib.hid (And.intro hc hxc)
  clear hkd hds hc hxc hx1
  by_cases hk1 : kd = 1
  case neg =>
    have hb1 : (kd == 1) = false := by simpa using hk1
    have hb2 : (kd != 1) = true := by simpa using hk1
    obtain ⟨c0, c1, c2, c3, c4, c5, c6⟩ := HC.out.1 W1.drew (Ext.drew _)
    have HT := Lib.hid (take_bad (n := n) (m := m) (.inl (by rw [HK.out.1]; exact hk1)))
    go_region
    clear c0 c1 c2 c3 c4 c5 c6
    have hat2 := Lib.hid (hat1.out.ext (Ext.drew W1))
    go_wp2_with (refine putM (m2 := Msg.none0) (r2 := .slice none 0 0) (e2 := .slice none 0 0) (s2 := .slice none 0 0) (d2 := .slice none 0 0) (by rfl) _ _ rfl rfl rfl hat2.out noSlice noSlice noSlice noSlice ?_; intro W9 hat9 hB9)
    have hld := run_loadVar_mid (P := Tryz.prog) W9 (q + 1) 0 50 _ _ (MsgAt.range hat9.out) Tryz.underlying50 rfl (by kernel_rfl)
    refine bodyPost_ret (v := .tuple #[.agg (msgCells Msg.none0 (.slice none 0 0) (.slice none 0 0) (.slice none 0 0) (.slice none 0 0)), .int .i64 1]) (by simp [results, Tryz.results15, hld, asAddr, Act.put]) rfl ?_
    rw [HT.out]
    exact ⟨rfl, LeavesNode.refl ⟨M1, M2, cvs, gvs, HN.out⟩ (Ext.newQ (HE1.out.trans (Ext.drew _)) (by have := HQ.out; omega) hB9.out)⟩
  subst hk1
  by_cases hd1 : ds = id
  case neg =>
    have hb1 : (ds == id) = false := by simpa using hd1
    have hb2 : (ds != id) = true := by simpa using hd1
    obtain ⟨c0, c1, c2, c3, c4, c5, c6⟩ := HC.out.1 W1.drew (Ext.drew _)
    have hxd := HC.out.2 W1.drew (Ext.drew _)
    simp at hxd
    have HT := Lib.hid (take_bad (n := n) (m := m) (.inr (.inl (by rw [HK.out.2, HID.out]; exact hd1))))
    go_region
    clear c0 c1 c2 c3 c4 c5 c6
    have hat2 := Lib.hid (hat1.out.ext (Ext.drew W1))
    go_wp2_with (refine putM (m2 := Msg.none0) (r2 := .slice none 0 0) (e2 := .slice none 0 0) (s2 := .slice none 0 0) (d2 := .slice none 0 0) (by rfl) _ _ rfl rfl rfl hat2.out noSlice noSlice noSlice noSlice ?_; intro W9 hat9 hB9)
    have hld := run_loadVar_mid (P := Tryz.prog) W9 (q + 1) 0 50 _ _ (MsgAt.range hat9.out) Tryz.underlying50 rfl (by kernel_rfl)
    refine bodyPost_ret (v := .tuple #[.agg (msgCells Msg.none0 (.slice none 0 0) (.slice none 0 0) (.slice none 0 0) (.slice none 0 0)), .int .i64 1]) (by simp [results, Tryz.results15, hld, asAddr, Act.put]) rfl ?_
    rw [HT.out]
    exact ⟨rfl, LeavesNode.refl ⟨M1, M2, cvs, gvs, HN.out⟩ (Ext.newQ (HE1.out.trans (Ext.drew _)) (by have := HQ.out; omega) hB9.out)⟩
  subst hd1
  have hrc := fun wy (h : Ext W1 wy) => right7_any (.agg (msgCells m (.slice a0 n0 k0) (.slice a1 n1 k1) (.slice a2 n2 k2) (.slice a3 n3 k3))) m wy (HV.out wy (TwS.ext (HE1.out.trans h)))
  obtain ⟨rb, hrb⟩ : ∃ z, Msg.right m = z := ⟨_, rfl⟩
  rw [hrb] at hrc
  have HRC := Lib.hid hrc
  have HRB := Lib.hid hrb
  clear hrc hrb
  have ldm := fun wy (h : Ext W1 wy) => (by
    have h1 := (HV.out wy (TwS.ext (HE1.out.trans h))).cells
    exact Msg7.ld (T := 50) (p := q) ⟨HM1.out.ext h, h1.1, h1.2.1, h1.2.2.1, h1.2.2.2⟩ : (Instr.loadAt 50 (.pointer (some ⟨q, 0, none⟩))).run Tryz.prog wy = .ok (.agg (msgCells m (.slice a0 n0 k0) (.slice a1 n1 k1) (.slice a2 n2 k2) (.slice a3 n3 k3))) wy)
  have HLD := Lib.hid ldm
  clear ldm
  refine wp_region_facts (by kernel_rfl) Ext (fun iop v w => match iop with
      | 0 => v = .pointer (some ⟨q, 0, none⟩)
      | 1 => v = .int .i64 1
      | 2 => v = .bool false
      | 3 => v = .bool false
      | 4 => v = .pointer (some ⟨q, 2, none⟩)
      | 5 => v = .int .i64 ds
      | 6 => v = .pointer (some ⟨x, 0, none⟩)
      | 7 => v = .pointer (some ⟨x, 0, none⟩)
      | 8 => v = .pointer (some ⟨x, 0, none⟩)
      | 9 => v = .int .i64 ds
      | 10 => v = .bool false
      | 11 => v = .bool false
      | 12 => v = .bool false
      | 13 => v = .agg (msgCells m (.slice a0 n0 k0) (.slice a1 n1 k1) (.slice a2 n2 k2) (.slice a3 n3 k3))
      | 14 => v = .bool rb
      | 15 => v = .bool (!rb)
      | _ => v = .bool (!rb)
      ) (by kernel_rfl) (fun _ _ _ h k => Ext.trans h k) (fun a => Ext.refl a) (Ext.drew _) ?_ ?_ ?_
  · intro iop v wa wb hF hL
    iterate 16 (rcases iop with _ | iop; exact hF)
    exact hF
  · refine Obls.cons ?_ (Obls.cons ?_ (Obls.cons ?_ (Obls.cons ?_ (Obls.cons ?_ (Obls.cons ?_ (Obls.cons ?_ (Obls.cons ?_ (Obls.cons ?_ (Obls.cons ?_ (Obls.cons ?_ (Obls.cons ?_ (Obls.cons ?_ (Obls.cons ?_ (Obls.cons ?_ (Obls.cons ?_ (Obls.cons ?_ (Obls.nil)))))))))))))))))
    · intro ev wy hp hl hk hd
      have e3 : ev (.tmp 3) = .pointer (some ⟨q, 0, none⟩) := hk 3 (by decide)
      clear hk hd
      exact Yield.op (v := .pointer (some ⟨q, 0, none⟩)) (w' := wy) (by simp [execOp, go_sem, e3]) ⟨Ext.refl _, rfl⟩
    · intro ev wy hp hl hk hd
      have e9 : ev (.tmp 9) = .pointer (some ⟨q, 0, none⟩) := hk 9 (by decide)
      clear hk hd
      exact Yield.load rfl e9 (by simp [go_sem, (HC.out.1 wy hl).1]) ⟨Ext.refl _, rfl⟩
    · intro ev wy hp hl hk hd
      have e10 : ev (.tmp 10) = .int .i64 1 := hk 10 (by decide)
      clear hk hd
      exact Yield.op (v := .bool false) (w' := wy) (by simp [execOp, go_sem, e10, hp.const]) ⟨Ext.refl _, rfl⟩
    · intro ev wy hp hl hk hd
      have e11 : ev (.tmp 11) = .bool false := hk 11 (by decide)
      clear hk hd
      exact Yield.mv rfl ⟨Ext.refl _, e11⟩
    · intro ev wy hp hl hk hd
      have e3 : ev (.tmp 3) = .pointer (some ⟨q, 0, none⟩) := hk 3 (by decide)
      clear hk
      refine ⟨fun _ _ _ => ?_, fun _ hx hne => absurd hx hne⟩
      clear hd
      exact Yield.op (v := .pointer (some ⟨q, 2, none⟩)) (w' := wy) (by simp [execOp, go_sem, e3]) ⟨Ext.refl _, rfl⟩
    · intro ev wy hp hl hk hd
      have e13 : ev (.tmp 13) = .pointer (some ⟨q, 2, none⟩) := hk 13 (by decide)
      clear hk
      refine ⟨fun _ _ _ => ?_, fun _ hx hne => absurd hx hne⟩
      clear hd
      exact Yield.load rfl e13 (by simp [go_sem, (HC.out.1 wy hl).2.2.1]) ⟨Ext.refl _, rfl⟩
    · intro ev wy hp hl hk hd
      have e0 : ev (.tmp 0) = .pointer (some ⟨x, 0, none⟩) := hk 0 (by decide)
      clear hk
      refine ⟨fun _ _ _ => ?_, fun _ hx hne => absurd hx hne⟩
      clear hd
      exact Yield.mv rfl ⟨Ext.refl _, e0⟩
    · intro ev wy hp hl hk hd
      have e15 : ev (.tmp 15) = .pointer (some ⟨x, 0, none⟩) := hk 15 (by decide)
      clear hk
      refine ⟨fun _ _ _ => ?_, fun _ hx hne => absurd hx hne⟩
      clear hd
      exact Yield.op (v := .pointer (some ⟨x, 0, none⟩)) (w' := wy) (by simp [execOp, go_sem, e15]) ⟨Ext.refl _, rfl⟩
    · intro ev wy hp hl hk hd
      have e16 : ev (.tmp 16) = .pointer (some ⟨x, 0, none⟩) := hk 16 (by decide)
      clear hk
      refine ⟨fun _ _ _ => ?_, fun _ hx hne => absurd hx hne⟩
      clear hd
      exact Yield.op (v := .pointer (some ⟨x, 0, none⟩)) (w' := wy) (by simp [execOp, go_sem, e16]) ⟨Ext.refl _, rfl⟩
    · intro ev wy hp hl hk hd
      have e17 : ev (.tmp 17) = .pointer (some ⟨x, 0, none⟩) := hk 17 (by decide)
      clear hk
      refine ⟨fun _ _ _ => ?_, fun _ hx hne => absurd hx hne⟩
      clear hd
      have hxd := HC.out.2 wy hl
      simp at hxd
      exact Yield.load rfl e17 (by simp [go_sem, hxd]) ⟨Ext.refl _, rfl⟩
    · intro ev wy hp hl hk hd
      have e14 : ev (.tmp 14) = .int .i64 ds := hk 14 (by decide)
      have e18 : ev (.tmp 18) = .int .i64 ds := hk 18 (by decide)
      clear hk
      refine ⟨fun _ _ _ => ?_, fun _ hx hne => absurd hx hne⟩
      clear hd
      exact Yield.op (v := .bool false) (w' := wy) (by simp [execOp, go_sem, e14, e18]) ⟨Ext.refl _, rfl⟩
    · intro ev wy hp hl hk hd
      have e12 : ev (.tmp 12) = .bool false := hk 12 (by decide)
      have e19 : ev (.tmp 19) = .bool false := hk 19 (by decide)
      clear hk hd
      exact Yield.pick (t := false) rfl e12 ⟨Ext.refl _, e19⟩
    · intro ev wy hp hl hk hd
      have e20 : ev (.tmp 20) = .bool false := hk 20 (by decide)
      clear hk hd
      exact Yield.mv rfl ⟨Ext.refl _, e20⟩
    · intro ev wy hp hl hk hd
      have e3 : ev (.tmp 3) = .pointer (some ⟨q, 0, none⟩) := hk 3 (by decide)
      clear hk
      refine ⟨fun _ _ _ => ?_, fun _ hx hne => absurd hx hne⟩
      clear hd
      exact Yield.load rfl e3 (HLD.out wy hl) ⟨Ext.refl _, rfl⟩
    · intro ev wy hp hl hk hd
      have e22 : ev (.tmp 22) = .agg (msgCells m (.slice a0 n0 k0) (.slice a1 n1 k1) (.slice a2 n2 k2) (.slice a3 n3 k3)) := hk 22 (by decide)
      clear hk
      refine ⟨fun _ _ _ => ?_, fun _ hx hne => absurd hx hne⟩
      clear hd
      refine Yield.call rfl hp Tryz.func52 rfl (by kernel_rfl) ?_
      simp only [List.map_toArray, List.map_cons, List.map_nil, e22]
      exact ((HRC.out wy hl)).mono fun _ _ ⟨he, hb⟩ => ⟨_, he, hb, by first | rfl | simp⟩
    · intro ev wy hp hl hk hd
      have e23 : ev (.tmp 23) = .bool rb := hk 23 (by decide)
      clear hk
      refine ⟨fun _ _ _ => ?_, fun _ hx hne => absurd hx hne⟩
      clear hd
      exact Yield.op (v := .bool (!rb)) (w' := wy) (by simp [execOp, go_sem, e23]) ⟨Ext.refl _, rfl⟩
    · intro ev wy hp hl hk hd
      have e21 : ev (.tmp 21) = .bool false := hk 21 (by decide)
      have e24 : ev (.tmp 24) = .bool (!rb) := hk 24 (by decide)
      clear hk hd
      exact Yield.pick (t := false) rfl e21 ⟨Ext.refl _, e24⟩
  · intro vals wz hz hv
    have g9 : vals 0 = .pointer (some ⟨q, 0, none⟩) := hv 0 (by decide)
    have g10 : vals 1 = .int .i64 1 := hv 1 (by decide)
    have g11 : vals 2 = .bool false := hv 2 (by decide)
    have g12 : vals 3 = .bool false := hv 3 (by decide)
    have g13 : vals 4 = .pointer (some ⟨q, 2, none⟩) := hv 4 (by decide)
    have g14 : vals 5 = .int .i64 ds := hv 5 (by decide)
    have g15 : vals 6 = .pointer (some ⟨x, 0, none⟩) := hv 6 (by decide)
    have g16 : vals 7 = .pointer (some ⟨x, 0, none⟩) := hv 7 (by decide)
    have g17 : vals 8 = .pointer (some ⟨x, 0, none⟩) := hv 8 (by decide)
    have g18 : vals 9 = .int .i64 ds := hv 9 (by decide)
    have g19 : vals 10 = .bool false := hv 10 (by decide)
    have g20 : vals 11 = .bool false := hv 11 (by decide)
    have g21 : vals 12 = .bool false := hv 12 (by decide)
    have g22 : vals 13 = .agg (msgCells m (.slice a0 n0 k0) (.slice a1 n1 k1) (.slice a2 n2 k2) (.slice a3 n3 k3)) := hv 13 (by decide)
    have g23 : vals 14 = .bool rb := hv 14 (by decide)
    have g24 : vals 15 = .bool (!rb) := hv 15 (by decide)
    have g25 : vals 16 = .bool (!rb) := hv 16 (by decide)
    clear hv
    simp only [putAll, Act.put, List.setIfInBounds_toArray, List.set_cons_zero, List.set_cons_succ, g9, g10, g11, g12, g13, g14, g15, g16, g17, g18, g19, g20, g21, g22, g23, g24, g25]
    clear g9
    clear g10
    clear g11
    clear g12
    clear g13
    clear g14
    clear g15
    clear g16
    clear g17
    clear g18
    clear g19
    clear g20
    clear g21
    clear g22
    clear g23
    clear g24
    clear g25
    have hat2 := Lib.hid (hat1.out.ext hz)
    have HE2 := Lib.hid (HE1.out.trans hz)
    have HM2 := Lib.hid (HM1.out.ext hz)
    clear hat1 HM1 HX1 HC HLD HRC hz
    cases rb with
    | false =>
      have HT := Lib.hid (take_bad (n := n) (m := m) (.inr (.inr HRB.out)))
      go_wp2_with (refine putM (m2 := Msg.none0) (r2 := .slice none 0 0) (e2 := .slice none 0 0) (s2 := .slice none 0 0) (d2 := .slice none 0 0) (by rfl) _ _ rfl rfl rfl hat2.out noSlice noSlice noSlice noSlice ?_; intro W9 hat9 hB9)
      have hld := run_loadVar_mid (P := Tryz.prog) W9 (q + 1) 0 50 _ _ (MsgAt.range hat9.out) Tryz.underlying50 rfl (by kernel_rfl)
      refine bodyPost_ret (v := .tuple #[.agg (msgCells Msg.none0 (.slice none 0 0) (.slice none 0 0) (.slice none 0 0) (.slice none 0 0)), .int .i64 1]) (by simp [results, Tryz.results15, hld, asAddr, Act.put]) rfl ?_
      rw [HT.out]
      exact ⟨rfl, LeavesNode.refl ⟨M1, M2, cvs, gvs, HN.out⟩ (Ext.newQ (HE2.out) (by have := HQ.out; omega) hB9.out)⟩
    | true =>
      obtain ⟨tm, htm⟩ : ∃ z, m.term = z := ⟨_, rfl⟩
      obtain ⟨sh, hsh⟩ : ∃ z, m.shard = z := ⟨_, rfl⟩
      have hbd := headBounds HRB.out
      rw [htm, hsh] at hbd
      have hcc := fun w' (h : Ext wz w') => (HM2.out.ext h).head
      rw [htm, hsh] at hcc
      have HC2 := Lib.hid (And.intro (fun w' h => (hcc w' h).2.2.2.1) (fun w' h => (hcc w' h).2.2.2.2.1))
      have HTS := Lib.hid (And.intro htm hsh)
      have wt : (Lit.int .i64 tm).wf = true := wfOf (by omega)
      have ws : (Lit.int .i64 sh).wf = true := wfOf (by omega)
      have HRT := Lib.hid (show ¬(m.kind ≠ 1 ∨ m.dst ≠ n.id ∨ Msg.right m = false) by rw [HK.out.1, HK.out.2, HID.out, HRB.out]; simp)
      cases hfd : n.find tm sh with
      | none =>
        have hff := fun wy (h : Ext wz wy) (bn bt : Nat) h1 h2 => ((HN.out.ext HE2.out).ext h).findN_none (bn := bn) (bt := bt) wt ws h1 h2 hfd
        have HF := Lib.hid hff
        have HT := Lib.hid (take_lost (n := n) (m := m) HRT.out (by rw [HTS.out.1, HTS.out.2]; exact hfd))
        clear hcc htm hsh hff hfd wt ws
        go_wp2_with fail
        refine wp_region_facts (by kernel_rfl) Ext (fun iop v w => match iop with
            | 0 => v = .pointer (some ⟨x, 0, none⟩)
            | 1 => v = .pointer (some ⟨q, 3, none⟩)
            | 2 => v = .int .i64 tm
            | 3 => ∃ bn bt : Nat, v = .func (.func 100) #[] #[.pointer (some ⟨bn, 0, none⟩), .pointer (some ⟨bt, 0, none⟩)] ∧ w.heap[bn]? = some (.cells #[.pointer (some ⟨x, 0, none⟩)] 37 (0, 0)) ∧ w.heap[bt]? = some (.cells #[.int .i64 tm] 3 (0, 0))
            | 4 => v = .pointer (some ⟨q, 4, none⟩)
            | 5 => v = .int .i64 sh
            | 6 => v = .tuple #[.pointer none, .bool false]
            | 7 => v = .tuple #[.pointer none, .bool false]
            | 8 => v = .pointer none
            | 9 => v = .bool false
            | 10 => v = .pointer none
            | _ => v = .bool false
            ) (by kernel_rfl) (fun _ _ _ h k => Ext.trans h k) (fun a => Ext.refl a) (Ext.drew _) ?_ ?_ ?_
        · intro iop v wa wb hF hL
          iterate 3 (rcases iop with _ | iop; exact hF)
          rcases iop with _ | iop; (first | exact hF | (obtain ⟨a, b, h1, h2, h3⟩ := hF; exact ⟨a, b, h1, heap_ext h2 hL, heap_ext h3 hL⟩))
          iterate 7 (rcases iop with _ | iop; exact hF)
          exact hF
        · refine Obls.cons ?_ (Obls.cons ?_ (Obls.cons ?_ (Obls.cons ?_ (Obls.cons ?_ (Obls.cons ?_ (Obls.cons ?_ (Obls.cons ?_ (Obls.cons ?_ (Obls.cons ?_ (Obls.cons ?_ (Obls.cons ?_ (Obls.nil))))))))))))
          · intro ev wy hp hl hk hd
            have e0 : ev (.tmp 0) = .pointer (some ⟨x, 0, none⟩) := hk 0 (by decide)
            clear hk hd
            exact Yield.mv rfl ⟨Ext.refl _, e0⟩
          · intro ev wy hp hl hk hd
            have e3 : ev (.tmp 3) = .pointer (some ⟨q, 0, none⟩) := hk 3 (by decide)
            clear hk hd
            exact Yield.op (v := .pointer (some ⟨q, 3, none⟩)) (w' := wy) (by simp [execOp, go_sem, e3]) ⟨Ext.refl _, rfl⟩
          · intro ev wy hp hl hk hd
            have e29 : ev (.tmp 29) = .pointer (some ⟨q, 3, none⟩) := hk 29 (by decide)
            clear hk hd
            exact Yield.load rfl e29 (by simp [go_sem, (HC2.out.1 wy hl)]) ⟨Ext.refl _, rfl⟩
          · intro ev wy hp hl hk hd
            have e28 : ev (.tmp 28) = .pointer (some ⟨x, 0, none⟩) := hk 28 (by decide)
            have e30 : ev (.tmp 30) = .int .i64 tm := hk 30 (by decide)
            clear hk hd
            refine Yield.call rfl hp Tryz.func53 rfl (by kernel_rfl) ?_
            simp only [List.map_toArray, List.map_cons, List.map_nil, hp.const, e28, e30]
            exact (finder10_any x tm wy).mono fun e w' ⟨he, hE, h1, h2, _⟩ => ⟨_, he, hE, _, _, rfl, h1, h2⟩
          · intro ev wy hp hl hk hd
            have e3 : ev (.tmp 3) = .pointer (some ⟨q, 0, none⟩) := hk 3 (by decide)
            clear hk hd
            exact Yield.op (v := .pointer (some ⟨q, 4, none⟩)) (w' := wy) (by simp [execOp, go_sem, e3]) ⟨Ext.refl _, rfl⟩
          · intro ev wy hp hl hk hd
            have e32 : ev (.tmp 32) = .pointer (some ⟨q, 4, none⟩) := hk 32 (by decide)
            clear hk hd
            exact Yield.load rfl e32 (by simp [go_sem, (HC2.out.2 wy hl)]) ⟨Ext.refl _, rfl⟩
          · intro ev wy hp hl hk hd
            have f31 : (fun (v : Value) (w : World) => ∃ bn bt : Nat, v = .func (.func 100) #[] #[.pointer (some ⟨bn, 0, none⟩), .pointer (some ⟨bt, 0, none⟩)] ∧ w.heap[bn]? = some (.cells #[.pointer (some ⟨x, 0, none⟩)] 37 (0, 0)) ∧ w.heap[bt]? = some (.cells #[.int .i64 tm] 3 (0, 0))) (ev (.tmp 31)) wy := hk 31 (by decide)
            generalize hx31 : ev (.tmp 31) = x31 at *
            have e33 : ev (.tmp 33) = .int .i64 sh := hk 33 (by decide)
            clear hk hd
            obtain ⟨bn, bt, hv31, hb1, hb2⟩ := f31
            subst hv31
            refine Yield.callf rfl hx31 Tryz.func100 rfl (by kernel_rfl) ?_
            simp only [List.map_toArray, List.map_cons, List.map_nil, List.append_toArray, List.cons_append, List.nil_append, e33]
            exact (HF.out wy hl bn bt hb1 hb2).mono fun e w' ⟨he, hE⟩ => ⟨_, he, hE, rfl⟩
          · intro ev wy hp hl hk hd
            have e34 : ev (.tmp 34) = .tuple #[.pointer none, .bool false] := hk 34 (by decide)
            clear hk hd
            exact Yield.mv rfl ⟨Ext.refl _, e34⟩
          · intro ev wy hp hl hk hd
            have e27 : ev (.tmp 27) = .tuple #[.pointer none, .bool false] := hk 27 (by decide)
            clear hk hd
            exact Yield.op (v := .pointer none) (w' := wy) (by simp [execOp, go_sem, e27]) ⟨Ext.refl _, rfl⟩
          · intro ev wy hp hl hk hd
            have e27 : ev (.tmp 27) = .tuple #[.pointer none, .bool false] := hk 27 (by decide)
            clear hk hd
            exact Yield.op (v := .bool false) (w' := wy) (by simp [execOp, go_sem, e27]) ⟨Ext.refl _, rfl⟩
          · intro ev wy hp hl hk hd
            have e35 : ev (.tmp 35) = .pointer none := hk 35 (by decide)
            clear hk hd
            exact Yield.as rfl ⟨Ext.refl _, e35⟩
          · intro ev wy hp hl hk hd
            have e36 : ev (.tmp 36) = .bool false := hk 36 (by decide)
            clear hk hd
            exact Yield.as rfl ⟨Ext.refl _, e36⟩
        · intro vals wz hz hv
          have g28 : vals 0 = .pointer (some ⟨x, 0, none⟩) := hv 0 (by decide)
          have g29 : vals 1 = .pointer (some ⟨q, 3, none⟩) := hv 1 (by decide)
          have g30 : vals 2 = .int .i64 tm := hv 2 (by decide)
          have g31 : (fun (v : Value) (w : World) => ∃ bn bt : Nat, v = .func (.func 100) #[] #[.pointer (some ⟨bn, 0, none⟩), .pointer (some ⟨bt, 0, none⟩)] ∧ w.heap[bn]? = some (.cells #[.pointer (some ⟨x, 0, none⟩)] 37 (0, 0)) ∧ w.heap[bt]? = some (.cells #[.int .i64 tm] 3 (0, 0))) (vals 3) wz := hv 3 (by decide)
          have g32 : vals 4 = .pointer (some ⟨q, 4, none⟩) := hv 4 (by decide)
          have g33 : vals 5 = .int .i64 sh := hv 5 (by decide)
          have g34 : vals 6 = .tuple #[.pointer none, .bool false] := hv 6 (by decide)
          have g27 : vals 7 = .tuple #[.pointer none, .bool false] := hv 7 (by decide)
          have g35 : vals 8 = .pointer none := hv 8 (by decide)
          have g36 : vals 9 = .bool false := hv 9 (by decide)
          have g6 : vals 10 = .pointer none := hv 10 (by decide)
          have g7 : vals 11 = .bool false := hv 11 (by decide)
          clear hv
          simp only [putAll, Act.put, List.setIfInBounds_toArray, List.set_cons_zero, List.set_cons_succ, g28, g29, g30, g32, g33, g34, g27, g35, g36, g6, g7]
          clear g28
          clear g29
          clear g30
          generalize vals 3 = v31 at *
          clear g32
          clear g33
          clear g34
          clear g27
          clear g35
          clear g36
          clear g6
          clear g7
          have hat3 := Lib.hid (hat2.out.ext hz)
          have HE3 := Lib.hid (HE2.out.trans hz)
          clear hat2 hz
          go_wp2_with (refine putM (m2 := Msg.none0) (r2 := .slice none 0 0) (e2 := .slice none 0 0) (s2 := .slice none 0 0) (d2 := .slice none 0 0) (by rfl) _ _ rfl rfl rfl hat3.out noSlice noSlice noSlice noSlice ?_; intro W9 hat9 hB9)
          have hld := run_loadVar_mid (P := Tryz.prog) W9 (q + 1) 0 50 _ _ (MsgAt.range hat9.out) Tryz.underlying50 rfl (by kernel_rfl)
          refine bodyPost_ret (v := .tuple #[.agg (msgCells Msg.none0 (.slice none 0 0) (.slice none 0 0) (.slice none 0 0) (.slice none 0 0)), .int .i64 100]) (by simp [results, Tryz.results15, hld, asAddr, Act.put]) rfl ?_
          rw [HT.out]
          exact ⟨rfl, LeavesNode.refl ⟨M1, M2, cvs, gvs, HN.out⟩ (Ext.newQ (HE3.out) (by have := HQ.out; omega) hB9.out)⟩
      | some G =>
        obtain ⟨i, hi, hkey, hG⟩ := HN.out.find_some hfd
        obtain ⟨g, hg⟩ : ∃ z, gvs[i].1 = z := ⟨_, rfl⟩
        have hff := fun wy (h : Ext wz wy) (bn bt : Nat) h1 h2 => ((HN.out.ext HE2.out).ext h).findN_some (bn := bn) (bt := bt) wt ws h1 h2 hkey
        rw [hg] at hff
        have HF := Lib.hid hff
        have HIX := Lib.hid (show ∃ hi : i < gvs.length, gvs[i].2.1 = (tm, sh) ∧ gvs[i].2.2 = G ∧ gvs[i].1 = g from ⟨hi, hkey, hG, hg⟩)
        have HFD := Lib.hid hfd
        clear hcc htm hsh hff hfd wt ws hkey hG hg hi
        go_wp2_with fail
        refine wp_region_facts (by kernel_rfl) Ext (fun iop v w => match iop with
            | 0 => v = .pointer (some ⟨x, 0, none⟩)
            | 1 => v = .pointer (some ⟨q, 3, none⟩)
            | 2 => v = .int .i64 tm
            | 3 => ∃ bn bt : Nat, v = .func (.func 100) #[] #[.pointer (some ⟨bn, 0, none⟩), .pointer (some ⟨bt, 0, none⟩)] ∧ w.heap[bn]? = some (.cells #[.pointer (some ⟨x, 0, none⟩)] 37 (0, 0)) ∧ w.heap[bt]? = some (.cells #[.int .i64 tm] 3 (0, 0))
            | 4 => v = .pointer (some ⟨q, 4, none⟩)
            | 5 => v = .int .i64 sh
            | 6 => v = .tuple #[.pointer (some ⟨g, 0, none⟩), .bool true]
            | 7 => v = .tuple #[.pointer (some ⟨g, 0, none⟩), .bool true]
            | 8 => v = .pointer (some ⟨g, 0, none⟩)
            | 9 => v = .bool true
            | 10 => v = .pointer (some ⟨g, 0, none⟩)
            | _ => v = .bool true
            ) (by kernel_rfl) (fun _ _ _ h k => Ext.trans h k) (fun a => Ext.refl a) (Ext.drew _) ?_ ?_ ?_
        · intro iop v wa wb hF hL
          iterate 3 (rcases iop with _ | iop; exact hF)
          rcases iop with _ | iop; (first | exact hF | (obtain ⟨a, b, h1, h2, h3⟩ := hF; exact ⟨a, b, h1, heap_ext h2 hL, heap_ext h3 hL⟩))
          iterate 7 (rcases iop with _ | iop; exact hF)
          exact hF
        · refine Obls.cons ?_ (Obls.cons ?_ (Obls.cons ?_ (Obls.cons ?_ (Obls.cons ?_ (Obls.cons ?_ (Obls.cons ?_ (Obls.cons ?_ (Obls.cons ?_ (Obls.cons ?_ (Obls.cons ?_ (Obls.cons ?_ (Obls.nil))))))))))))
          · intro ev wy hp hl hk hd
            have e0 : ev (.tmp 0) = .pointer (some ⟨x, 0, none⟩) := hk 0 (by decide)
            clear hk hd
            exact Yield.mv rfl ⟨Ext.refl _, e0⟩
          · intro ev wy hp hl hk hd
            have e3 : ev (.tmp 3) = .pointer (some ⟨q, 0, none⟩) := hk 3 (by decide)
            clear hk hd
            exact Yield.op (v := .pointer (some ⟨q, 3, none⟩)) (w' := wy) (by simp [execOp, go_sem, e3]) ⟨Ext.refl _, rfl⟩
          · intro ev wy hp hl hk hd
            have e29 : ev (.tmp 29) = .pointer (some ⟨q, 3, none⟩) := hk 29 (by decide)
            clear hk hd
            exact Yield.load rfl e29 (by simp [go_sem, (HC2.out.1 wy hl)]) ⟨Ext.refl _, rfl⟩
          · intro ev wy hp hl hk hd
            have e28 : ev (.tmp 28) = .pointer (some ⟨x, 0, none⟩) := hk 28 (by decide)
            have e30 : ev (.tmp 30) = .int .i64 tm := hk 30 (by decide)
            clear hk hd
            refine Yield.call rfl hp Tryz.func53 rfl (by kernel_rfl) ?_
            simp only [List.map_toArray, List.map_cons, List.map_nil, hp.const, e28, e30]
            exact (finder10_any x tm wy).mono fun e w' ⟨he, hE, h1, h2, _⟩ => ⟨_, he, hE, _, _, rfl, h1, h2⟩
          · intro ev wy hp hl hk hd
            have e3 : ev (.tmp 3) = .pointer (some ⟨q, 0, none⟩) := hk 3 (by decide)
            clear hk hd
            exact Yield.op (v := .pointer (some ⟨q, 4, none⟩)) (w' := wy) (by simp [execOp, go_sem, e3]) ⟨Ext.refl _, rfl⟩
          · intro ev wy hp hl hk hd
            have e32 : ev (.tmp 32) = .pointer (some ⟨q, 4, none⟩) := hk 32 (by decide)
            clear hk hd
            exact Yield.load rfl e32 (by simp [go_sem, (HC2.out.2 wy hl)]) ⟨Ext.refl _, rfl⟩
          · intro ev wy hp hl hk hd
            have f31 : (fun (v : Value) (w : World) => ∃ bn bt : Nat, v = .func (.func 100) #[] #[.pointer (some ⟨bn, 0, none⟩), .pointer (some ⟨bt, 0, none⟩)] ∧ w.heap[bn]? = some (.cells #[.pointer (some ⟨x, 0, none⟩)] 37 (0, 0)) ∧ w.heap[bt]? = some (.cells #[.int .i64 tm] 3 (0, 0))) (ev (.tmp 31)) wy := hk 31 (by decide)
            generalize hx31 : ev (.tmp 31) = x31 at *
            have e33 : ev (.tmp 33) = .int .i64 sh := hk 33 (by decide)
            clear hk hd
            obtain ⟨bn, bt, hv31, hb1, hb2⟩ := f31
            subst hv31
            refine Yield.callf rfl hx31 Tryz.func100 rfl (by kernel_rfl) ?_
            simp only [List.map_toArray, List.map_cons, List.map_nil, List.append_toArray, List.cons_append, List.nil_append, e33]
            exact (HF.out wy hl bn bt hb1 hb2).mono fun e w' ⟨he, hE⟩ => ⟨_, he, hE, rfl⟩
          · intro ev wy hp hl hk hd
            have e34 : ev (.tmp 34) = .tuple #[.pointer (some ⟨g, 0, none⟩), .bool true] := hk 34 (by decide)
            clear hk hd
            exact Yield.mv rfl ⟨Ext.refl _, e34⟩
          · intro ev wy hp hl hk hd
            have e27 : ev (.tmp 27) = .tuple #[.pointer (some ⟨g, 0, none⟩), .bool true] := hk 27 (by decide)
            clear hk hd
            exact Yield.op (v := .pointer (some ⟨g, 0, none⟩)) (w' := wy) (by simp [execOp, go_sem, e27]) ⟨Ext.refl _, rfl⟩
          · intro ev wy hp hl hk hd
            have e27 : ev (.tmp 27) = .tuple #[.pointer (some ⟨g, 0, none⟩), .bool true] := hk 27 (by decide)
            clear hk hd
            exact Yield.op (v := .bool true) (w' := wy) (by simp [execOp, go_sem, e27]) ⟨Ext.refl _, rfl⟩
          · intro ev wy hp hl hk hd
            have e35 : ev (.tmp 35) = .pointer (some ⟨g, 0, none⟩) := hk 35 (by decide)
            clear hk hd
            exact Yield.as rfl ⟨Ext.refl _, e35⟩
          · intro ev wy hp hl hk hd
            have e36 : ev (.tmp 36) = .bool true := hk 36 (by decide)
            clear hk hd
            exact Yield.as rfl ⟨Ext.refl _, e36⟩
        · intro vals wz hz hv
          have g28 : vals 0 = .pointer (some ⟨x, 0, none⟩) := hv 0 (by decide)
          have g29 : vals 1 = .pointer (some ⟨q, 3, none⟩) := hv 1 (by decide)
          have g30 : vals 2 = .int .i64 tm := hv 2 (by decide)
          have g31 : (fun (v : Value) (w : World) => ∃ bn bt : Nat, v = .func (.func 100) #[] #[.pointer (some ⟨bn, 0, none⟩), .pointer (some ⟨bt, 0, none⟩)] ∧ w.heap[bn]? = some (.cells #[.pointer (some ⟨x, 0, none⟩)] 37 (0, 0)) ∧ w.heap[bt]? = some (.cells #[.int .i64 tm] 3 (0, 0))) (vals 3) wz := hv 3 (by decide)
          have g32 : vals 4 = .pointer (some ⟨q, 4, none⟩) := hv 4 (by decide)
          have g33 : vals 5 = .int .i64 sh := hv 5 (by decide)
          have g34 : vals 6 = .tuple #[.pointer (some ⟨g, 0, none⟩), .bool true] := hv 6 (by decide)
          have g27 : vals 7 = .tuple #[.pointer (some ⟨g, 0, none⟩), .bool true] := hv 7 (by decide)
          have g35 : vals 8 = .pointer (some ⟨g, 0, none⟩) := hv 8 (by decide)
          have g36 : vals 9 = .bool true := hv 9 (by decide)
          have g6 : vals 10 = .pointer (some ⟨g, 0, none⟩) := hv 10 (by decide)
          have g7 : vals 11 = .bool true := hv 11 (by decide)
          clear hv
          simp only [putAll, Act.put, List.setIfInBounds_toArray, List.set_cons_zero, List.set_cons_succ, g28, g29, g30, g32, g33, g34, g27, g35, g36, g6, g7]
          clear g28
          clear g29
          clear g30
          generalize vals 3 = v31 at *
          clear g32
          clear g33
          clear g34
          clear g27
          clear g35
          clear g36
          clear g6
          clear g7
          have hat3 := Lib.hid (hat2.out.ext hz)
          have HE3 := Lib.hid (HE2.out.trans hz)
          have HM3 := Lib.hid (HM2.out.ext hz)
          clear hat2 HM2 HC2 hz
          have hbd := headBounds HRB.out
          have hN3 := HN.out.ext HE3.out
          obtain ⟨hi, hkey, hG, hg⟩ := HIX.out
          obtain ⟨p, va, vp, lv, ps, hs3⟩ := hN3.segs i hi
          have h7 : Msg7 50 wz q m (.slice a0 n0 k0) (.slice a1 n1 k1) (.slice a2 n2 k2) (.slice a3 n3 k3) := by
            have h1 := (HV.out wz (TwS.ext HE3.out)).cells
            exact ⟨HM3.out, h1.1, h1.2.1, h1.2.2.1, h1.2.2.2⟩
          have hlr := h7.ldRec
          have hap := append9S hs3.seg (fun k hk => hN3.cover k (by omega)) m.number (by omega) (.agg #[.int .i64 m.reco.client, .int .i64 m.reco.number, .slice a0 n0 k0, .string ⟨m.reco.data.toArray⟩]) m.reco (fun w' ht => by
            have h1 := (HV.out w' ((TwS.ext HE3.out).then ht (fun k _ e => by omega))).cells
            exact (IsMsg.parts (m := m) h1.1 h1.2.1 h1.2.2.1 h1.2.2.2).1)
          rw [hG, hg] at hap
          have HAP := Lib.hid hap
          have HS3 := Lib.hid hs3
          obtain ⟨c0, c1, c2, c3, c4, c5, c6⟩ := HM3.out.head
          obtain ⟨qr, hqr⟩ : ∃ z : Value, .agg #[.int .i64 m.reco.client, .int .i64 m.reco.number, .slice a0 n0 k0, .string ⟨m.reco.data.toArray⟩] = z := ⟨_, rfl⟩
          rw [hqr] at hlr HAP
          obtain ⟨qn, hqn⟩ : ∃ z : Int, m.number = z := ⟨_, rfl⟩
          rw [hqn] at HAP c5
          have HQN := Lib.hid (And.intro hqn hqr)
          clear hap hs3 h7 hN3 hbd hkey hG hg hqr hqn c0 c1 c2 c3 c4 c6
          go_wp2_with (refine ldAny (by rfl) _ rfl rfl hlr ?_)
          refine HAP.out.mono ?_
          rintro e w4 ⟨rfl, hL4, ht4, _⟩
          obtain ⟨hi, hkey, hG, hg⟩ := HIX.out
          have hN3 := HN.out.ext HE3.out
          have hs3 := HS3.out
          have hN4 := hN3.turned (G' := G.app qn m.reco) i hi hs3 (by rw [hg]; exact hL4) ht4
          have hkc : ∀ k T (mm : Msg.M) (r1 r2 r3 r4 : Value), MsgAt T wz (q + k) mm r1 r2 r3 r4 → MsgAt T w4 (q + k) mm r1 r2 r3 r4 := fun k T mm r1 r2 r3 r4 h => (ht4.block (q + k) h.lt (by
            have := HQ0.out k
            rw [HQ.out] at this
            omega)).trans h
          have HAT4 := Lib.hid (hkc 1 _ _ _ _ _ _ hat3.out)
          have HM4 := Lib.hid (hkc 0 _ _ _ _ _ _ HM3.out)
          obtain ⟨er, her⟩ : ∃ z : Int, G.appErr qn m.reco = z := ⟨_, rfl⟩
          obtain ⟨col4, hcol4⟩ : ∃ f, paint col wz w4 (2 * i + 4 + o) = f := ⟨_, rfl⟩
          have hA4 : Agree wz col col4 := by rw [← hcol4]; exact agree_paint _ _ _ _
          rw [hcol4] at hN4
          have HN4 := Lib.hid (And.intro hN4 (And.intro hA4 ht4))
          have HER := Lib.hid her
          rw [her]
          have HSZ := Lib.hid (show q + 1 < wz.heap.size from hat3.out.lt)
          have HC41 := Lib.hid (show col4 (q + 1) = 0 by rw [hA4 _ HSZ.out, ← HQ.out]; exact HQ0.out 1)
          have HC40 := Lib.hid (show col4 (q + 0) = 0 by rw [hA4 _ (by have := HSZ.out; omega), ← HQ.out]; exact HQ0.out 0)
          clear hat3 HM3 hL4 ht4 hkc her hcol4 hA4 hN4 hN3 hs3 hlr c5 HAP HS3
          have hT4 : TwS (fun k => Mine o (col k)) w w4 := (TwS.ext HE3.out).then HN4.out.2.2 fun k hk e => by
            show Mine o (col k)
            rw [e]
            exact mine_seg HN.out.odd i
          have HT4 := Lib.hid hT4
          clear hT4 hkey hG hg
          by_cases h91 : er = 91
          · subst h91
            have HT := Lib.hid (take_above (n := n) (m := m) HRT.out (by rw [HTS.out.1, HTS.out.2]; exact HFD.out) (by rw [HQN.out.1]; exact HER.out))
            have HLV := Lib.hid (show LeavesQ B x o col w n w4 (q + 1) by
              obtain ⟨hi, hkey, hG, hg⟩ := HIX.out
              have h4 := HN4.out.1
              rw [app91 HER.out, ← hG, HN.out.setSeg_id i hi] at h4
              exact ⟨col4, ⟨M1, M2, cvs, _, h4⟩, HT4.out, HN4.out.2.1.earlier HE3.out.size, HC41.out⟩)
            go_wp2_with (refine putM (m2 := Msg.none0) (r2 := .slice none 0 0) (e2 := .slice none 0 0) (s2 := .slice none 0 0) (d2 := .slice none 0 0) (by rfl) _ _ rfl rfl rfl HAT4.out noSlice noSlice noSlice noSlice ?_; intro W9 hat9 hB9)
            have hld := run_loadVar_mid (P := Tryz.prog) W9 (q + 1) 0 50 _ _ (MsgAt.range hat9.out) Tryz.underlying50 rfl (by kernel_rfl)
            refine bodyPost_ret (v := .tuple #[.agg (msgCells Msg.none0 (.slice none 0 0) (.slice none 0 0) (.slice none 0 0) (.slice none 0 0)), .int .i64 101]) (by simp [results, Tryz.results15, hld, asAddr, Act.put]) rfl ?_
            rw [HT.out]
            exact ⟨rfl, (HLV.out).but (by have := HQ.out; omega) hB9.out⟩
          · have h91b : (er == 91) = false := by simpa using h91
            have hN4 := HN4.out.1
            obtain ⟨hi, hkey, hG, hg⟩ := HIX.out
            have hi4 : i < (gvs.set i (gvs[i].1, gvs[i].2.1, G.app qn m.reco)).length := by simpa using hi
            obtain ⟨p, va, vp, lv, ps, hs4⟩ := hN4.segs i hi4
            have hok : (G.app qn m.reco).Ok := (HI.out.find HFD.out).1.app _ _
            have hsy := sync9S (G := G.app qn m.reco) (by have := hs4.seg; simp only [List.getElem_set_self] at this; exact this) hok
            rw [hg] at hsy
            have HSY := Lib.hid hsy
            have HS4 := Lib.hid hs4
            clear hs4 hsy hok hN4 hkey hG hg
            go_wp2_with fail
            refine HSY.out.mono ?_
            rintro e w5 ⟨rfl, hL5, ht5, _⟩
            obtain ⟨hi, hkey, hG, hg⟩ := HIX.out
            have hi4 : i < (gvs.set i (gvs[i].1, gvs[i].2.1, G.app qn m.reco)).length := by simpa using hi
            have hN5 := HN4.out.1.turned (G' := (G.app qn m.reco).sync) i hi4 HS4.out (by simp only [List.getElem_set_self]; rw [hg]; exact hL5) ht5
            simp only [List.getElem_set_self, List.set_set] at hN5
            have hss : setSeg (setSeg n i gvs[i].2.1 (G.app qn m.reco)) i gvs[i].2.1 (G.app qn m.reco).sync = setSeg n i gvs[i].2.1 (G.app qn m.reco).sync := by
              unfold setSeg
              simp only [List.set_set]
            rw [hss] at hN5
            have hq4 : ∀ k, q + k < w4.heap.size → col4 (q + k) = 0 → w5.heap[q + k]? = w4.heap[q + k]? := fun k hk e => ht5.block (q + k) hk (by omega)
            have HAT5 := Lib.hid (show MsgAt 50 w5 (q + 1) Msg.none0 (.slice none 0 0) (.slice none 0 0) (.slice none 0 0) (.slice none 0 0) from (hq4 1 HAT4.out.lt HC41.out).trans HAT4.out)
            have HM5 := Lib.hid (show MsgAt 50 w5 q m (.slice a0 n0 k0) (.slice a1 n1 k1) (.slice a2 n2 k2) (.slice a3 n3 k3) from (hq4 0 HM4.out.lt HC40.out).trans HM4.out)
            have hA5 : Agree w4 col4 (paint col4 w4 w5 (2 * i + 4 + o)) := agree_paint _ _ _ _
            obtain ⟨col5, hcol5⟩ : ∃ f, paint col4 w4 w5 (2 * i + 4 + o) = f := ⟨_, rfl⟩
            rw [hcol5] at hN5 hA5
            have hta := HN.out.turn_is i hi (fun G => (G.app m.number m.reco).sync)
            rw [hG, HQN.out.1] at hta
            have HTA := Lib.hid hta
            have hT5 : TwS (fun k => Mine o (col k)) w w5 := HT4.out.then ht5 fun k hk e => by
              have h1 : col4 k = col k := HN4.out.2.1 k (Nat.lt_of_lt_of_le hk HE3.out.size)
              show Mine o (col k)
              rw [← h1, e]
              exact mine_seg HN.out.odd i
            have HT0 := take_done (n := n) (m := m) (G := G) HRT.out (by rw [HTS.out.1, HTS.out.2]; exact HFD.out) (by rw [HQN.out.1, HER.out]; exact h91)
            rw [HQN.out.1, HER.out, HTS.out.1, HTS.out.2, ← hkey, hta] at HT0
            have hc51 : col5 (q + 1) = 0 := (hA5 _ HAT4.out.lt).trans HC41.out
            have HN5 := Lib.hid hN5
            have hlv : LeavesQ B x o col w (setSeg n i gvs[i].2.1 (G.app qn m.reco).sync) w5 (q + 1) := ⟨col5, ⟨M1, M2, cvs, _, hN5⟩, hT5, (HN4.out.2.1.earlier HE3.out.size).trans (w1 := w4) hA5 HT4.out.size, hc51⟩
            have HLV := Lib.hid (show ∃ N5, n.take m = (N5, if er = 0 then Shd.kept n m (G.app qn m.reco).sync.safe else Msg.none0, er) ∧ LeavesQ B x o col w N5 w5 (q + 1) from ⟨_, HT0, hlv⟩)
            clear hL5 ht5 hss hq4 hA5 hcol5 hta hT5 HT0 hlv hc51 HSY HS4 hkey hG hg h91 h91b
            have HX5 := Lib.hid HN5.out.blk.heap
            clear hN5
            by_cases he0 : er = 0
            · subst he0
              obtain ⟨N5, hT5, hlv⟩ := HLV.out
              obtain ⟨K, hK⟩ : ∃ K, (G.app qn m.reco).sync.safe = K := ⟨_, rfl⟩
              obtain ⟨hi, hkey, hG, hg⟩ := HIX.out
              have hi5 : i < (gvs.set i (gvs[i].1, gvs[i].2.1, (G.app qn m.reco).sync)).length := by simpa using hi
              obtain ⟨p, va, vp, lv, ps, hs5⟩ := HN5.out.segs i hi5
              have hse := segsafe_any hs5.seg.seg
              simp only [List.getElem_set_self] at hs5
              have hsf := fun wy (hE : Ext w5 wy) => (segsafe_any (hs5.seg.seg.ext hE)).mono fun e w' (h : _ ∧ wy = w') => (⟨h.1, h.2 ▸ Ext.refl _⟩ : _ ∧ Ext wy w')
              rw [hg, hK] at hsf
              have HSF := Lib.hid hsf
              have hcc := fun w' (h : Ext w5 w') => (HM5.out.ext h).head
              rw [HTS.out.1, HTS.out.2] at hcc
              obtain ⟨sr, hsr⟩ : ∃ z, m.src = z := ⟨_, rfl⟩
              rw [hsr] at hcc
              have HC5 := Lib.hid hcc
              have hxc := fun w' (h : Ext w5 w') => cell_of_heap (heap_ext HX5.out h) 0
              have hid5 : (setSeg n i gvs[i].2.1 (G.app qn m.reco).sync).id = ds := HID.out
              rw [hid5] at hxc
              have HXC := Lib.hid hxc
              have HSR := Lib.hid hsr
              have HEND := Lib.hid (show n.take m = (N5, ⟨2, ds, sr, tm, sh, (K : Int), false, Msg.rec0, Msg.ent0, 0, 0, Msg.conf0⟩, 0) by
                rw [hT5, if_pos rfl]
                unfold Shd.kept
                rw [HID.out, hsr, HTS.out.1, HTS.out.2, hK])
              have HLQ := Lib.hid hlv
              have hbk := build_kept
              clear hT5 hlv hK hkey hG hg hs5 hse hsf hcc hsr hxc hid5
              go_wp2_with fail
              refine wp_region_tail (by kernel_rfl) 13 Ext (fun iop v w => match iop with
                  | 0 => v = .pointer (some ⟨x, 0, none⟩)
                  | 1 => v = .pointer (some ⟨x, 0, none⟩)
                  | 2 => v = .pointer (some ⟨x, 0, none⟩)
                  | 3 => v = .int .i64 ds
                  | 4 => v = .pointer (some ⟨q, 1, none⟩)
                  | 5 => v = .int .i64 sr
                  | 6 => v = .pointer (some ⟨q, 3, none⟩)
                  | 7 => v = .int .i64 tm
                  | 8 => v = .pointer (some ⟨q, 4, none⟩)
                  | 9 => v = .int .i64 sh
                  | 10 => v = .pointer (some ⟨g, 0, none⟩)
                  | 11 => v = .int .i64 (K : Nat)
                  | _ => v = .agg (msgCells ⟨2, ds, sr, tm, sh, (K : Int), false, Msg.rec0, Msg.ent0, 0, 0, Msg.conf0⟩ (.slice none 0 0) (.slice none 0 0) (.slice none 0 0) (.slice none 0 0))
                  ) (by kernel_rfl) (by kernel_rfl) (by decide) (fun _ _ _ h k => Ext.trans h k) (fun a => Ext.refl a) (Ext.drew _) ?_ ?_ ?_
              · intro iop v wa wb hF hL
                iterate 12 (rcases iop with _ | iop; exact hF)
                exact hF
              · refine Obls.cons ?_ (Obls.cons ?_ (Obls.cons ?_ (Obls.cons ?_ (Obls.cons ?_ (Obls.cons ?_ (Obls.cons ?_ (Obls.cons ?_ (Obls.cons ?_ (Obls.cons ?_ (Obls.cons ?_ (Obls.cons ?_ (Obls.cons ?_ (Obls.nil)))))))))))))
                · intro ev wy hp hl hk hd
                  have e0 : ev (.tmp 0) = .pointer (some ⟨x, 0, none⟩) := hk 0 (by decide)
                  clear hk hd
                  exact Yield.mv rfl ⟨Ext.refl _, e0⟩
                · intro ev wy hp hl hk hd
                  have e55 : ev (.tmp 55) = .pointer (some ⟨x, 0, none⟩) := hk 55 (by decide)
                  clear hk hd
                  exact Yield.op (v := .pointer (some ⟨x, 0, none⟩)) (w' := wy) (by simp [execOp, go_sem, e55]) ⟨Ext.refl _, rfl⟩
                · intro ev wy hp hl hk hd
                  have e56 : ev (.tmp 56) = .pointer (some ⟨x, 0, none⟩) := hk 56 (by decide)
                  clear hk hd
                  exact Yield.op (v := .pointer (some ⟨x, 0, none⟩)) (w' := wy) (by simp [execOp, go_sem, e56]) ⟨Ext.refl _, rfl⟩
                · intro ev wy hp hl hk hd
                  have e57 : ev (.tmp 57) = .pointer (some ⟨x, 0, none⟩) := hk 57 (by decide)
                  clear hk hd
                  have hxd := HXC.out wy hl
                  simp at hxd
                  exact Yield.load rfl e57 (by simp [go_sem, hxd]) ⟨Ext.refl _, rfl⟩
                · intro ev wy hp hl hk hd
                  have e3 : ev (.tmp 3) = .pointer (some ⟨q, 0, none⟩) := hk 3 (by decide)
                  clear hk hd
                  exact Yield.op (v := .pointer (some ⟨q, 1, none⟩)) (w' := wy) (by simp [execOp, go_sem, e3]) ⟨Ext.refl _, rfl⟩
                · intro ev wy hp hl hk hd
                  have e59 : ev (.tmp 59) = .pointer (some ⟨q, 1, none⟩) := hk 59 (by decide)
                  clear hk hd
                  exact Yield.load rfl e59 (by simp [go_sem, (HC5.out wy hl).2.1]) ⟨Ext.refl _, rfl⟩
                · intro ev wy hp hl hk hd
                  have e3 : ev (.tmp 3) = .pointer (some ⟨q, 0, none⟩) := hk 3 (by decide)
                  clear hk hd
                  exact Yield.op (v := .pointer (some ⟨q, 3, none⟩)) (w' := wy) (by simp [execOp, go_sem, e3]) ⟨Ext.refl _, rfl⟩
                · intro ev wy hp hl hk hd
                  have e61 : ev (.tmp 61) = .pointer (some ⟨q, 3, none⟩) := hk 61 (by decide)
                  clear hk hd
                  exact Yield.load rfl e61 (by simp [go_sem, (HC5.out wy hl).2.2.2.1]) ⟨Ext.refl _, rfl⟩
                · intro ev wy hp hl hk hd
                  have e3 : ev (.tmp 3) = .pointer (some ⟨q, 0, none⟩) := hk 3 (by decide)
                  clear hk hd
                  exact Yield.op (v := .pointer (some ⟨q, 4, none⟩)) (w' := wy) (by simp [execOp, go_sem, e3]) ⟨Ext.refl _, rfl⟩
                · intro ev wy hp hl hk hd
                  have e63 : ev (.tmp 63) = .pointer (some ⟨q, 4, none⟩) := hk 63 (by decide)
                  clear hk hd
                  exact Yield.load rfl e63 (by simp [go_sem, (HC5.out wy hl).2.2.2.2.1]) ⟨Ext.refl _, rfl⟩
                · intro ev wy hp hl hk hd
                  have e6 : ev (.tmp 6) = .pointer (some ⟨g, 0, none⟩) := hk 6 (by decide)
                  clear hk hd
                  exact Yield.mv rfl ⟨Ext.refl _, e6⟩
                · intro ev wy hp hl hk hd
                  have e65 : ev (.tmp 65) = .pointer (some ⟨g, 0, none⟩) := hk 65 (by decide)
                  clear hk hd
                  refine Yield.call rfl hp Tryz.func56 rfl (by kernel_rfl) ?_
                  simp only [List.map_toArray, List.map_cons, List.map_nil, e65]
                  exact ((HSF.out wy hl)).mono fun _ _ ⟨he, hb⟩ => ⟨_, he, hb, by first | rfl | simp⟩
                · intro ev wy hp hl hk hd
                  have e58 : ev (.tmp 58) = .int .i64 ds := hk 58 (by decide)
                  have e60 : ev (.tmp 60) = .int .i64 sr := hk 60 (by decide)
                  have e62 : ev (.tmp 62) = .int .i64 tm := hk 62 (by decide)
                  have e64 : ev (.tmp 64) = .int .i64 sh := hk 64 (by decide)
                  have e66 : ev (.tmp 66) = .int .i64 (K : Nat) := hk 66 (by decide)
                  clear hk hd
                  exact Yield.op (w' := wy) (by simp [execOp, go_sem, hp.const, e58, e60, e62, e64, e66, hbk]; rfl) ⟨Ext.refl _, rfl⟩
              · intro vals wz hz hv
                have g55 : vals 0 = .pointer (some ⟨x, 0, none⟩) := hv 0 (by decide)
                have g56 : vals 1 = .pointer (some ⟨x, 0, none⟩) := hv 1 (by decide)
                have g57 : vals 2 = .pointer (some ⟨x, 0, none⟩) := hv 2 (by decide)
                have g58 : vals 3 = .int .i64 ds := hv 3 (by decide)
                have g59 : vals 4 = .pointer (some ⟨q, 1, none⟩) := hv 4 (by decide)
                have g60 : vals 5 = .int .i64 sr := hv 5 (by decide)
                have g61 : vals 6 = .pointer (some ⟨q, 3, none⟩) := hv 6 (by decide)
                have g62 : vals 7 = .int .i64 tm := hv 7 (by decide)
                have g63 : vals 8 = .pointer (some ⟨q, 4, none⟩) := hv 8 (by decide)
                have g64 : vals 9 = .int .i64 sh := hv 9 (by decide)
                have g65 : vals 10 = .pointer (some ⟨g, 0, none⟩) := hv 10 (by decide)
                have g66 : vals 11 = .int .i64 (K : Nat) := hv 11 (by decide)
                have g67 : vals 12 = .agg (msgCells ⟨2, ds, sr, tm, sh, (K : Int), false, Msg.rec0, Msg.ent0, 0, 0, Msg.conf0⟩ (.slice none 0 0) (.slice none 0 0) (.slice none 0 0) (.slice none 0 0)) := hv 12 (by decide)
                clear hv
                simp only [List.take_succ_cons, List.take_zero, List.drop_succ_cons, List.drop_zero]
                simp only [putAll, Act.put, List.setIfInBounds_toArray, List.set_cons_zero, List.set_cons_succ, g55, g56, g57, g58, g59, g60, g61, g62, g63, g64, g65, g66, g67]
                clear g55
                clear g56
                clear g57
                clear g58
                clear g59
                clear g60
                clear g61
                clear g62
                clear g63
                clear g64
                clear g65
                clear g66
                clear g67
                have hat6 := Lib.hid (HAT5.out.ext hz)
                have HLQ6 := Lib.hid (LeavesQ.ext HLQ.out hz)
                clear hz HAT5 HM5
                go_wp2_with (refine putM (m2 := ⟨2, ds, sr, tm, sh, (K : Int), false, Msg.rec0, Msg.ent0, 0, 0, Msg.conf0⟩) (r2 := .slice none 0 0) (e2 := .slice none 0 0) (s2 := .slice none 0 0) (d2 := .slice none 0 0) (by rfl) _ _ rfl rfl rfl hat6.out noSlice noSlice noSlice noSlice ?_; intro W9 hat9 hB9)
                have hld := run_loadVar_mid (P := Tryz.prog) W9 (q + 1) 0 50 _ _ (MsgAt.range hat9.out) Tryz.underlying50 rfl (by kernel_rfl)
                refine bodyPost_ret (v := .tuple #[.agg (msgCells ⟨2, ds, sr, tm, sh, (K : Int), false, Msg.rec0, Msg.ent0, 0, 0, Msg.conf0⟩ (.slice none 0 0) (.slice none 0 0) (.slice none 0 0) (.slice none 0 0)), .int .i64 0]) (by simp [results, Tryz.results15, hld, asAddr, Act.put]) rfl ?_
                rw [HEND.out]
                exact ⟨rfl, HLQ6.out.but (by have := HQ.out; omega) hB9.out⟩
            · have he0b : (er == 0) = false := by simpa using he0
              obtain ⟨N5, hT5, hlv⟩ := HLV.out
              rw [if_neg he0] at hT5
              have HT := Lib.hid hT5
              have HLQ := Lib.hid hlv
              clear hT5 hlv
              go_wp2_with (refine putM (m2 := Msg.none0) (r2 := .slice none 0 0) (e2 := .slice none 0 0) (s2 := .slice none 0 0) (d2 := .slice none 0 0) (by rfl) _ _ rfl rfl rfl HAT5.out noSlice noSlice noSlice noSlice ?_; intro W9 hat9 hB9)
              have hld := run_loadVar_mid (P := Tryz.prog) W9 (q + 1) 0 50 _ _ (MsgAt.range hat9.out) Tryz.underlying50 rfl (by kernel_rfl)
              refine bodyPost_ret (v := .tuple #[.agg (msgCells Msg.none0 (.slice none 0 0) (.slice none 0 0) (.slice none 0 0) (.slice none 0 0)), .int .i64 er]) (by simp [results, Tryz.results15, hld, asAddr, Act.put]) rfl ?_
              rw [HT.out]
              exact ⟨rfl, (HLQ.out).but (by have := HQ.out; omega) hB9.out⟩
end Go.Proofs.YtaijgpdlgcgfaaaGreat

/- Layer 10: what was told to be kept is there; two nodes have the same records; who serves what; mathematics. -/
namespace Go.Proofs.YtaijgpdlgcgfaaaGreat.Seg
set_option linter.unusedSimpArgs false
set_option linter.unusedVariables false
theorem app_w {G : Sg} (n : Int) (r : Rec.R) : (G.app n r).w = G.w ∨ ((G.app n r).w = ⟨G.w.l ++ [r], G.w.trimmed, false⟩ ∧ n = (G.len : Int)) := by
  cases hc : G.case n r with
  | next =>
    obtain ⟨h1, h2, h3, h4⟩ := app_next hc
    have ha : G.app n r = ⟨G.s.append (recFrame r), G.safe⟩ := by unfold Sg.app; rw [hc]
    by_cases he : G.s.appendErr (recFrame r) = 0
    · refine .inr ⟨?_, h2⟩
      rw [ha]
      exact next_w (S := G.s) h3 h1 he
    · left
      rw [ha, same_w he]
  | _ =>
    left
    have ha : G.app n r = G := by unfold Sg.app; rw [hc]
    rw [ha]
end Go.Proofs.YtaijgpdlgcgfaaaGreat.Seg
namespace Go.Proofs.YtaijgpdlgcgfaaaGreat.Shd
set_option linter.unusedSimpArgs false
set_option linter.unusedVariables false
open Seg (Sg)

/-- Each segment's term is known, and has that shard. -/
def Wf (n : Nd) : Prop := ∀ x ∈ n.gs, ∃ c, n.conf x.1.1 = some c ∧ 0 ≤ x.1.2 ∧ x.1.2 < (c.shards.length : Int)
theorem Wf.find {n : Nd} (h : Wf n) {t s : Int} {G : Sg} (hf : n.find t s = some G) : ∃ c, n.conf t = some c ∧ 0 ≤ s ∧ s < (c.shards.length : Int) := by
  unfold Nd.find at hf
  obtain ⟨x, hx, rfl⟩ := Option.map_eq_some_iff.1 hf
  have h1 := h x (List.mem_of_find?_eq_some hx)
  have h2 : x.1 = (t, s) := by simpa using List.find?_some hx
  rw [h2] at h1
  exact h1
theorem Wf.turn {n : Nd} (h : Wf n) (F : Int × Int → Sg → Sg) : Wf ⟨n.id, n.cs, turn F n.gs⟩ := by
  intro x hx
  obtain ⟨y, hy, rfl⟩ := List.mem_map.1 hx
  exact h y hy
theorem Wf.serve {n : Nd} (h : Wf n) (c : Term.C) : Wf (n.serve c).1 := by
  unfold Nd.serve
  split
  · exact h
  · split
    · exact h
    · next hn =>
      intro x hx
      rcases List.mem_append.1 hx with hx | hx
      · obtain ⟨d, hd, h2⟩ := h x hx
        refine ⟨d, ?_, h2⟩
        unfold Nd.conf at hd ⊢
        rw [List.find?_append, hd]
        rfl
      · obtain ⟨k, hk, rfl⟩ := List.mem_map.1 hx
        have hlt := List.mem_range.1 (List.mem_filter.1 hk).1
        refine ⟨c, ?_, Int.natCast_nonneg _, Int.ofNat_lt.2 hlt⟩
        unfold Nd.conf at hn ⊢
        rw [List.find?_append, hn]
        simp
theorem Wf.take {n : Nd} (h : Wf n) (m : Msg.M) : Wf (n.take m).1 := by
  unfold Nd.take
  split
  · exact h
  · split
    · exact h
    · split
      · exact h
      · exact h.turn _
theorem Wf.trims {t : Int} : ∀ {us : List Int} {k : Nat} {n : Nd}, Wf n → Wf (trims t us k n).1 := by
  intro us
  induction us with
  | nil => intro k n h; exact h
  | cons u us ih =>
    intro k n h
    unfold Shd.trims
    split
    · exact ih h
    · split
      · exact ih (h.turn _)
      · exact h.turn _
theorem Wf.trim {n : Nd} (h : Wf n) (t : Int) (upto : List Int) : Wf (n.trim t upto).1 := by
  unfold Nd.trim
  split
  · exact h
  · split
    · exact h
    · split
      · exact h
      · exact h.trims
theorem Wf.sync {n : Nd} (h : Wf n) : Wf n.sync := h.turn _
theorem Wf.crash {n : Nd} (h : Wf n) (keep : Int) : Wf (n.crash keep) := h.turn _

/-- What a Take tells that is not refused, and what there is behind a crash. -/
theorem keeps {n : Nd} (h : Inv n) (hw : Wf n) {m : Msg.M} (he : (n.take m).2.2 = 0) (keep : Int) :
    ∃ K : Nat, (n.take m).2.1 = kept n m K ∧ m.number < (K : Int) ∧ (((n.take m).1.crash keep).read m.term m.shard m.number).2 ∈ [0, 92] ∧
      ((((n.take m).1.crash keep).read m.term m.shard m.number).2 = 0 → (((n.take m).1.crash keep).read m.term m.shard m.number).1 = m.reco) ∧
      ∃ v, ((n.take m).1.crash keep).progress m.term = some v ∧ ∃ hs : m.shard.toNat < v.length, 0 ≤ m.shard ∧ (K : Int) ≤ v[m.shard.toNat] := by
  unfold Nd.take at he ⊢
  by_cases h1 : m.kind ≠ 1 ∨ m.dst ≠ n.id ∨ Msg.right m = false
  · rw [if_pos h1] at he
    cases he
  rw [if_neg h1] at he ⊢
  cases hf : n.find m.term m.shard with
  | none => rw [hf] at he; cases he
  | some G =>
    rw [hf] at he
    simp only at he ⊢
    by_cases h91 : G.appErr m.number m.reco = 91
    · rw [if_pos h91] at he
      cases he
    rw [if_neg h91] at he ⊢
    simp only at he ⊢
    obtain ⟨hok, ho⟩ := h.find hf
    obtain ⟨k1, k2, k3⟩ := Seg.kept_there hok ho he keep
    have hfind : ((⟨n.id, n.cs, turn (at1 (m.term, m.shard) fun G => (G.app m.number m.reco).sync) n.gs⟩ : Nd).crash keep).find m.term m.shard = some ((G.app m.number m.reco).sync.crash keep) := by
      unfold Nd.crash
      simp only
      rw [find_turn, find_turn]
      show ((n.find m.term m.shard).map _).map _ = _
      rw [hf]
      simp [at1]
    refine ⟨(G.app m.number m.reco).sync.safe, by rw [if_pos he], k1, ?_, ?_, ?_⟩
    · unfold Nd.read
      rw [hfind]
      rcases k2 with k2 | ⟨k2, _⟩ <;> simp [k2]
    · intro h0
      unfold Nd.read at h0 ⊢
      rw [hfind] at h0 ⊢
      simp only at h0 ⊢
      rcases k2 with k2 | ⟨_, k2⟩
      · rw [k2] at h0; cases h0
      · exact k2
    · obtain ⟨c, hc, s0, s1⟩ := hw.find hf
      have hc' : ((⟨n.id, n.cs, turn (at1 (m.term, m.shard) fun G => (G.app m.number m.reco).sync) n.gs⟩ : Nd).crash keep).conf m.term = some c := hc
      unfold Nd.progress
      rw [hc']
      refine ⟨_, rfl, by simp; omega, s0, ?_⟩
      simp only [List.getElem_map, List.getElem_range]
      rw [show ((m.shard.toNat : Nat) : Int) = m.shard by omega, hfind]
      exact Int.ofNat_le.2 k3
/-- A node that was told the records l alone, by their numbers, has no other ones. -/
def Only (l : List Rec.R) (n : Nd) : Prop := ∀ t s G, n.find t s = some G → G.w.trimmed = 0 ∧ ∀ i (hi : i < G.w.l.length), l[i]? = some G.w.l[i]
theorem Only.take {l : List Rec.R} {n : Nd} (h : Only l n) (m : Msg.M) (hm : l[m.number.toNat]? = some m.reco) : Only l (n.take m).1 := by
  unfold Nd.take
  split
  · exact h
  · split
    · exact h
    · next G hf =>
      split
      · exact h
      · intro t s G' hG'
        rw [find_turn] at hG'
        obtain ⟨H, hH, rfl⟩ := Option.map_eq_some_iff.1 hG'
        have h0 := h t s H hH
        have key : ∀ W : Seg.What, (W = H.w ∨ (W = ⟨H.w.l ++ [m.reco], H.w.trimmed, false⟩ ∧ m.number = (H.len : Int))) → W.trimmed = 0 ∧ ∀ i (hi : i < W.l.length), l[i]? = some W.l[i] := by
          rintro W (e | ⟨e, en⟩)
          · subst e
            exact h0
          · subst e
            refine ⟨h0.1, fun i hi => ?_⟩
            simp only [List.length_append, List.length_cons, List.length_nil] at hi
            by_cases hlt : i < H.w.l.length
            · rw [List.getElem_append_left hlt]
              exact h0.2 i hlt
            · obtain rfl : i = H.w.l.length := by omega
              rw [List.getElem_append_right (Nat.le_refl _)]
              have : m.number.toNat = H.w.l.length := by
                have : H.len = H.w.l.length := rfl
                omega
              rw [this] at hm
              simpa using hm
        unfold at1
        split
        · refine key _ ?_
          have hw : ((H.app m.number m.reco).sync).w = (H.app m.number m.reco).w := Seg.Sg.sync_w _
          show ((H.app m.number m.reco).sync).w = _ ∨ ((H.app m.number m.reco).sync).w = _ ∧ _
          rw [hw]
          exact Seg.app_w (G := H) m.number m.reco
        · exact h0
theorem Only.read {l : List Rec.R} {n : Nd} (h : Only l n) (t s : Int) (k : Nat) (he : (n.read t s k).2 = 0) : l[k]? = some (n.read t s k).1 := by
  unfold Nd.read at he ⊢
  cases hf : n.find t s with
  | none => rw [hf] at he; cases he
  | some G =>
    rw [hf] at he
    simp only at he ⊢
    obtain ⟨h1, h2⟩ := h t s G hf
    unfold Seg.Sg.getErr at he
    unfold Seg.Sg.getRec
    by_cases hc : (k : Int) < 0 ∨ (G.len : Int) ≤ (k : Int)
    · rw [if_pos hc] at he; cases he
    · rw [if_neg hc] at he ⊢
      by_cases ht : (k : Int) < (G.w.trimmed : Int)
      · rw [if_pos ht] at he; cases he
      · rw [if_neg ht]
        have hk : k < G.w.l.length := by
          have : G.len = G.w.l.length := rfl
          omega
        rw [h2 k hk, Int.toNat_natCast, List.getD_eq_getElem?_getD, List.getElem?_eq_getElem hk, Option.getD_some]
theorem find_parts (id : Int) (cs : List Term.C) (c : Term.C) (node : Int) (t s : Int) : ∀ j, ((⟨id, cs, parts c node j⟩ : Nd).find t s) = if t = c.term ∧ 0 ≤ s ∧ s < (j : Int) ∧ serves c node s.toNat = true then some fresh else none := by
  intro j
  induction j with
  | zero =>
    rw [if_neg (by omega)]
    rfl
  | succ j ih =>
    have hp : parts c node (j + 1) = parts c node j ++ (if serves c node j then [((c.term, (j : Int)), fresh)] else []) := by
      unfold parts
      rw [List.range_succ, List.filter_append, List.map_append]
      congr 1
      cases hs : serves c node j <;> simp [hs]
    rw [hp, find_more id cs, ih]
    cases hs : serves c node j with
    | false =>
      have e0 : (⟨id, cs, if false = true then [((c.term, (j : Int)), fresh)] else []⟩ : Nd).find t s = none := rfl
      rw [e0, Option.or_none]
      by_cases h1 : t = c.term ∧ 0 ≤ s ∧ s < (j : Int) ∧ serves c node s.toNat = true
      · rw [if_pos h1, if_pos ⟨h1.1, h1.2.1, by omega, h1.2.2.2⟩]
      · rw [if_neg h1, if_neg]
        rintro ⟨e1, e2, e3, e4⟩
        by_cases e5 : s < (j : Int)
        · exact h1 ⟨e1, e2, e5, e4⟩
        · have : s.toNat = j := by omega
          rw [this, hs] at e4
          cases e4
    | true =>
      have e0 : (⟨id, cs, if true = true then [((c.term, (j : Int)), fresh)] else []⟩ : Nd).find t s = if t = c.term ∧ s = (j : Int) then some fresh else none := by
        rw [if_pos rfl]
        simp only [Nd.find, List.find?_cons, List.find?_nil]
        by_cases h2 : t = c.term ∧ s = (j : Int)
        · obtain ⟨rfl, rfl⟩ := h2
          simp
        · have : ((c.term, (j : Int)) == (t, s)) = false := by
            rw [beq_eq_false_iff_ne]
            intro e
            injection e with e1 e2
            exact h2 ⟨e1.symm, e2.symm⟩
          rw [this, if_neg h2]
          rfl
      rw [e0]
      by_cases h1 : t = c.term ∧ 0 ≤ s ∧ s < (j : Int) ∧ serves c node s.toNat = true
      · rw [if_pos h1, if_pos (show t = c.term ∧ 0 ≤ s ∧ s < ((j + 1 : Nat) : Int) ∧ serves c node s.toNat = true from ⟨h1.1, h1.2.1, by omega, h1.2.2.2⟩)]
        rfl
      · rw [if_neg h1, Option.none_or]
        by_cases h2 : t = c.term ∧ s = (j : Int)
        · rw [if_pos h2, if_pos (show t = c.term ∧ 0 ≤ s ∧ s < ((j + 1 : Nat) : Int) ∧ serves c node s.toNat = true from ⟨h2.1, by omega, by omega, by rw [h2.2, Int.toNat_natCast]; exact hs⟩)]
        · rw [if_neg h2, if_neg]
          rintro ⟨e1, e2, e3, e4⟩
          by_cases e5 : s < (j : Int)
          · exact h1 ⟨e1, e2, e5, e4⟩
          · exact h2 ⟨e1, by omega⟩
/-- A node that serves one configuration keeps just for the shards that have it. -/
theorem serve_find {id : Int} {c : Term.C} (hr : Term.right c = true) (t s : Int) : ((new id).serve c).1.find t s = if t = c.term ∧ 0 ≤ s ∧ s < (c.shards.length : Int) ∧ serves c id s.toNat = true then some fresh else none := by
  have hs : (new id).serve c = (⟨id, [] ++ [c], [] ++ parts c id c.shards.length⟩, 0) := by
    unfold Nd.serve
    rw [if_neg (by simp [hr])]
    rfl
  rw [hs, find_more id [c]]
  show (none : Option Sg).or _ = _
  rw [Option.none_or]
  exact find_parts id _ c id t s _
end Go.Proofs.YtaijgpdlgcgfaaaGreat.Shd

/- Layer 10: what holds of a node whatever it is told; mathematics. -/
namespace Go.Proofs.YtaijgpdlgcgfaaaGreat.Shd
set_option linter.unusedSimpArgs false
set_option linter.unusedVariables false
open Seg (Sg)

structure Good (n : Nd) : Prop where
  inv : Inv n
  wf : Wf n
  right : ∀ c ∈ n.cs, Term.right c = true
theorem cs_take (n : Nd) (m : Msg.M) : (n.take m).1.cs = n.cs := by
  unfold Nd.take
  split
  · rfl
  · split
    · rfl
    · split <;> rfl
theorem cs_trims (t : Int) : ∀ (us : List Int) (k : Nat) (n : Nd), (trims t us k n).1.cs = n.cs := by
  intro us
  induction us with
  | nil => intro k n; rfl
  | cons u us ih =>
    intro k n
    unfold trims
    split
    · exact ih _ _
    · split
      · exact ih _ _
      · rfl
theorem cs_trim (n : Nd) (t : Int) (upto : List Int) : (n.trim t upto).1.cs = n.cs := by
  unfold Nd.trim
  split
  · rfl
  · split
    · rfl
    · split
      · rfl
      · exact cs_trims _ _ _ _
theorem Good.serve {n : Nd} (h : Good n) (c : Term.C) : Good (n.serve c).1 := by
  refine ⟨h.inv.serve c, h.wf.serve c, ?_⟩
  unfold Nd.serve
  split
  · exact h.right
  · next hr =>
    split
    · exact h.right
    · intro d hd
      rcases List.mem_append.1 hd with hd | hd
      · exact h.right d hd
      · rw [List.mem_singleton.1 hd]
        simpa using hr
theorem Good.take {n : Nd} (h : Good n) (m : Msg.M) : Good (n.take m).1 := ⟨h.inv.take m, h.wf.take m, by rw [cs_take]; exact h.right⟩
theorem Good.trim {n : Nd} (h : Good n) (t : Int) (upto : List Int) : Good (n.trim t upto).1 := ⟨h.inv.trim t upto, h.wf.trim t upto, by rw [cs_trim]; exact h.right⟩
theorem Good.sync {n : Nd} (h : Good n) : Good n.sync := ⟨h.inv.sync, h.wf.sync, h.right⟩
theorem Good.crash {n : Nd} (h : Good n) (keep : Int) : Good (n.crash keep) := ⟨h.inv.crash keep, h.wf.crash keep, h.right⟩
theorem good_new (id : Int) : Good (new id) := ⟨fun x hx => absurd hx (by simp [new]), fun x hx => absurd hx (by simp [new]), fun x hx => absurd hx (by simp [new])⟩
theorem Good.conf {n : Nd} (h : Good n) {t : Int} {c : Term.C} (hc : n.conf t = some c) : Term.right c = true := h.right c (List.mem_of_find?_eq_some hc)
/-- How far a node is, shard by shard. -/
def prog (n : Nd) (t : Int) (L : Nat) : List Int := (List.range L).map fun (s : Nat) => match n.find t (s : Int) with | some G => (G.safe : Int) | none => 0
theorem prog_len (n : Nd) (t : Int) (L : Nat) : (prog n t L).length = L := by simp [prog]
theorem progress_is {n : Nd} {t : Int} {c : Term.C} (h : n.conf t = some c) : n.progress t = some (prog n t c.shards.length) := by
  unfold Nd.progress prog
  rw [h]
  rfl
/-- The first k of it, the others 0. -/
def part (n : Nd) (t : Int) (L k : Nat) : List Int := (prog n t L).take k ++ List.replicate (L - k) 0
theorem part_zero (n : Nd) (t : Int) (L : Nat) : part n t L 0 = List.replicate L 0 := by simp [part]
theorem part_all (n : Nd) (t : Int) (L : Nat) : part n t L L = prog n t L := by
  unfold part
  rw [Nat.sub_self, List.replicate_zero, List.append_nil, List.take_of_length_le (by rw [prog_len]; exact Nat.le_refl _)]
theorem part_len (n : Nd) (t : Int) {L k : Nat} (hk : k ≤ L) : (part n t L k).length = L := by
  unfold part
  rw [List.length_append, List.length_take, prog_len, List.length_replicate]
  omega
theorem part_succ (n : Nd) (t : Int) {L k : Nat} (hk : k < L) : part n t L (k + 1) = (part n t L k).set k (match n.find t (k : Int) with | some G => (G.safe : Int) | none => 0) := by
  have hl : k < (prog n t L).length := by rw [prog_len]; exact hk
  have hr : List.replicate (L - k) (0 : Int) = 0 :: List.replicate (L - (k + 1)) 0 := by
    rw [show L - k = (L - (k + 1)) + 1 by omega, List.replicate_succ]
  unfold part
  rw [hr, List.take_succ_eq_append_getElem hl, List.append_assoc, List.set_append_right _ _ (by rw [List.length_take]; omega)]
  rw [List.length_take, Nat.min_eq_left (by omega), Nat.sub_self]
  simp [prog]
theorem part_none (n : Nd) (t : Int) {L k : Nat} (hk : k < L) (hf : n.find t (k : Int) = none) : part n t L (k + 1) = part n t L k := by
  rw [part_succ n t hk, hf]
  have hl : (List.take k (prog n t L)).length = k := by rw [List.length_take, prog_len]; omega
  have hr : List.replicate (L - k) (0 : Int) = 0 :: List.replicate (L - (k + 1)) 0 := by
    rw [show L - k = (L - (k + 1)) + 1 by omega, List.replicate_succ]
  unfold part
  rw [hr, List.set_append_right _ _ (Nat.le_of_eq hl), hl, Nat.sub_self]
  rfl
end Go.Proofs.YtaijgpdlgcgfaaaGreat.Shd

namespace Go.Proofs.YtaijgpdlgcgfaaaGreat
set_option linter.unusedSimpArgs false
set_option linter.unusedVariables false
set_option maxRecDepth 100000
open Go.RowKit
/- Layer 10: own: a configuration with rows of its own. -/
set_option maxHeartbeats 2000000 in
theorem cloneRows_any (v : Value) (xs : List Value) (w : World) (hv : Sl w v xs) (h1 : ∀ y ∈ xs, y.oneCell' = true) (hl : xs.length ≤ 1000000) :
    Calls Tryz.prog 114 #[v] w fun x w' => ∃ u, x = .returned u ∧ w'.ownsRow w.heap.size 25 1 u xs.length xs ∧ Ext w w' := by
  have hv0 := hv
  obtain ⟨a, cap, rfl, hcap, hmax, hn, hc⟩ := hv
  have e1 := fun (w : World) (a : Option Addr) (n c : Nat) => Lib.run_eql_slice_nil (P := Tryz.prog) w 32 25 a n c 0 0 Tryz.underlying32
  cases a with
  | none =>
    obtain rfl := hn rfl
    have : xs = [] := List.eq_nil_of_length_eq_zero (by omega)
    subst this
    clear hc
    go_enter Tryz.func114, Tryz.ntmps114
    go_wp2
    go_ret
    exact ⟨_, rfl, World.ownsRow_nil _ _ _ _, Below.refl _ _⟩
  | some ad =>
    have ti := tRow
    clear hc
    have hown0 : (w.alloc (.cells #[] 25)).ownsRow w.heap.size 25 1 (.slice (some ⟨w.heap.size, 0, none⟩) 0 0) 0 [] := World.ownsRow_made w #[] 0 (Nat.le_refl _) (by simp [maxLen]) (by simp)
    have hsl : Sl (w.alloc (.cells #[] 25)) (.slice (some ad) xs.length cap) xs := hv0.below (Ext.alloc _ _)
    have hc1 : 0 + xs.length ≤ maxLen := by unfold maxLen; omega
    have hc2 : (0 + xs.length) * 24 ≤ 140737488355328 := by omega
    go_enter Tryz.func114, Tryz.ntmps114
    go_wp2_with (first | (at_builtin; refine wpList_app rfl (.tmp 5) (.tmp 6) ti rfl rfl rfl hown0 hsl h1 hc1 hc2 (by simp) ?_; intro v2 w2 hown2 hg2))
    go_ret
    exact ⟨_, rfl, by simpa using hown2, ((Below.refl _ w).alloc (Nat.le_refl _) _).grown hg2 (by simp) (fun k hk => (hown0.lt k hk).1)⟩

/-- A row of rows, of which the first k are cloned. -/
def Mixed (w : World) (base : Nat) (v : Value) (xs : List Value) (ls : List (List Int)) (k : Nat) : Prop := ∃ ys : List Value, w.ownsRow base 25 1 v xs.length ys ∧ ys.length = xs.length ∧ (∀ i (h : i < ys.length) (h' : i < ls.length), i < k → OwnI w base ys[i] ls[i]) ∧ ∀ i, k ≤ i → ys[i]? = xs[i]?
theorem Mixed.ext {w w' : World} {base : Nat} {v : Value} {xs : List Value} {ls : List (List Int)} {k : Nat} (h : Mixed w base v xs ls k) (hE : Ext w w') : Mixed w' base v xs ls k := by
  obtain ⟨ys, h1, h2, h3, h4⟩ := h
  exact ⟨ys, rowExt h1 hE, h2, fun i a b c => (h3 i a b c).ext hE, h4⟩
theorem Mixed.done {w : World} {base : Nat} {v : Value} {xs : List Value} {ls : List (List Int)} {k : Nat} (h : Mixed w base v xs ls k) (hl : xs.length = ls.length) (hk : ls.length ≤ k) : OwnRR w base v ls := by
  obtain ⟨ys, h1, h2, h3, h4⟩ := h
  exact ⟨ys, hl ▸ h1, by omega, fun i a b => h3 i a b (by omega)⟩
/-- One more is cloned: it is stored. -/
theorem Mixed.next {w : World} {base : Nat} {g n cc : Nat} {xs : List Value} {ls : List (List Int)} {k : Nat} (h : Mixed w base (.slice (some ⟨g, 0, none⟩) n cc) xs ls k) (hk : k < xs.length) (hkl : k < ls.length) {u : Value} (hu : OwnI w base u ls[k]) :
    Mixed (w.setCell ⟨g, k, none⟩ u) base (.slice (some ⟨g, 0, none⟩) n cc) xs ls (k + 1) ∧ base ≤ g ∧ w.heap[g]? ≠ none := by
  obtain ⟨ys, h1, h2, h3, h4⟩ := h
  have hn : n = xs.length := by
    obtain ⟨a', c', e, _⟩ := Sl.ofOwn h1
    injection e with _ e _
    rw [e, h2]
  obtain ⟨cs, hcs⟩ := ownCells h1 (g := g) rfl
  have hB : But g w (w.setCell ⟨g, k, none⟩ u) := butSet w g k u
  refine ⟨⟨ys.set k u, ?_, by simp [h2], fun i a b c => ?_, fun i hi => ?_⟩, (h1.lt g rfl).1, by rw [hcs]; simp⟩
  · subst hn
    exact (h1.stored k u).1
  · have ha : i < ys.length := by simpa using a
    simp only [List.getElem_set]
    split
    · next e => subst e; exact hu.but hcs (by decide) hB
    · exact (h3 i ha b (by omega)).but hcs (by decide) hB
  · rw [List.getElem?_set_ne (by omega)]
    exact h4 i (by omega)
theorem Mixed.rest {w : World} {base : Nat} {v : Value} {xs : List Value} {ls : List (List Int)} {k : Nat} (h : Mixed w base v xs ls k) (hk : k < xs.length) : ∃ g cc, v = .slice (some ⟨g, 0, none⟩) xs.length cc ∧ w.cell? ⟨g, k, none⟩ = some xs[k] ∧ w.frozen? ⟨g, k, none⟩ = false ∧ xs.length ≤ cc := by
  obtain ⟨ys, h1, h2, h3, h4⟩ := h
  have hy : ys[k]? = some xs[k] := by rw [h4 k (Nat.le_refl _), List.getElem?_eq_getElem hk]
  rcases h1.2 with ⟨_, e⟩ | ⟨g, cap, cur, rfl, _, _, hle, _⟩
  · omega
  · refine ⟨g, cap, rfl, ?_, h1.frozenAt k, hle⟩
    rw [h1.cellAt k (by omega), hy]

/-- What own tells: rows of its own, in blocks that are new. -/
def GivesOwn10 (w : World) (c : Term.C) (e : Ending) (w' : World) : Prop := ∃ s d, e = .returned (confV c.term s d) ∧ OwnI w' w.heap.size s c.seqs ∧ OwnRR w' w.heap.size d c.shards ∧ Ext w w'
theorem rightSmall {c : Term.C} (h : Term.right c = true) : c.seqs.length ≤ 7 ∧ c.shards.length ≤ 8 ∧ (∀ l ∈ c.shards, l.length ≤ 3) ∧ 1 ≤ c.term ∧ c.term ≤ 64 := by
  unfold Term.right at h
  simp only [Bool.and_eq_true, decide_eq_true_eq, List.all_eq_true, Term.okShard] at h
  obtain ⟨⟨h0, _, h1⟩, h2, h3, _⟩ := h
  exact ⟨by omega, h1, fun l hl => (h2 l hl).1.2, h0.1, h0.2⟩
set_option maxHeartbeats 8000000 in
theorem own10_any (v : Value) (c : Term.C) (w : World) (hv : IsConf w v c) (hr : Term.right c = true) : Calls Tryz.prog 65 #[v] w (GivesOwn10 w c) := by
  obtain ⟨hl1, hl2, hl3⟩ := rightSmall hr
  obtain ⟨s, d, rfl, hs, hd⟩ := hv
  obtain ⟨xs, hxs, hxl, hxi⟩ := hd
  have HR := Lib.hid (And.intro hr (And.intro hl1 hl2))
  have HS := Lib.hid hs
  have HI := Lib.hid hxi
  obtain ⟨sa, sn, sc, rfl⟩ := hs.isSlice
  obtain ⟨N, hN⟩ : ∃ N, xs.length = N := ⟨_, rfl⟩
  have HX := Lib.hid hxs
  obtain ⟨da, dc, rfl, _⟩ := hxs
  rw [hN] at HX ⊢
  have HN := Lib.hid (And.intro hN hxl)
  have hchain : ∀ o1 o2 : Obj, ∃ w0, (w.alloc o1).alloc o2 = w0 ∧ Ext w w0 ∧ w0.heap[w.heap.size]? = some o1 ∧ w0.heap[w.heap.size + 1]? = some o2 ∧ w0.heap.size = w.heap.size + 1 + 1 := fun o1 o2 =>
    ⟨_, rfl, (Ext.alloc w _).trans (Ext.alloc _ _), (heap_two w o1 o2).1, (heap_two w o1 o2).2, by rw [World.size_alloc, World.size_alloc]⟩
  obtain ⟨w0, hw0, hE0, ha0, hb0, hs0⟩ := hchain (.cells #[.int .i64 c.term, .slice sa sn sc, .slice da N dc] 48) (.cells #[.int .i64 0, .slice none 0 0, .slice none 0 0] 48)
  have hN8 : N ≤ 8 := by omega
  obtain ⟨t, ht⟩ : ∃ t, c.term = t := ⟨_, rfl⟩
  have HT := Lib.hid ht
  rw [ht] at hw0 ha0
  have hcl1 : ∀ w', Ext w0 w' → Calls Tryz.prog 113 #[.slice sa sn sc] w' fun x w'' => ∃ a n cc, x = .returned (.slice a n cc) ∧ OwnI w'' w'.heap.size (.slice a n cc) c.seqs ∧ Ext w' w'' := fun w' hE =>
    (cloneI_any _ c.seqs w' (HS.out.below (hE0.trans hE)) (by omega)).mono fun x w'' ⟨u, h1, h2, h3⟩ => by
      obtain ⟨a, n, cc, rfl⟩ := ownSlice h2
      exact ⟨a, n, cc, h1, h2, h3⟩
  have hone : ∀ y ∈ xs, y.oneCell' = true := fun y hy => by
    obtain ⟨i, hi, rfl⟩ := List.getElem_of_mem hy
    obtain ⟨a, n, cc, e⟩ := (HI.out i hi (by omega)).isSlice
    rw [e]; rfl
  have hcl2 : ∀ w', Ext w0 w' → Calls Tryz.prog 114 #[.slice da N dc] w' fun x w'' => ∃ a cc, x = .returned (.slice a N cc) ∧ w''.ownsRow w'.heap.size 25 1 (.slice a N cc) N xs ∧ Ext w' w'' := fun w' hE =>
    (cloneRows_any _ xs w' (HX.out.below (hE0.trans hE)) hone (by omega)).mono fun x w'' ⟨u, h1, h2, h3⟩ => by
      obtain ⟨a, n, cc, rfl⟩ := ownSlice h2
      rw [hN] at h2
      have : n = N := by
        obtain ⟨a', c', e, _⟩ := Sl.ofOwn h2
        injection e with _ e _
        rw [e, hN]
      subst this
      exact ⟨a, cc, h1, h2, h3⟩
  have hrows : ∀ (k : Nat) (hk1 : k < xs.length) (hk2 : k < c.shards.length), ∃ a n c9, xs[k] = .slice a n c9 ∧ ∀ w', Ext w w' → Calls Tryz.prog 113 #[.slice a n c9] w' fun x w'' => ∃ a n cc, x = .returned (.slice a n cc) ∧ OwnI w'' w'.heap.size (.slice a n cc) c.shards[k] ∧ Ext w' w'' := fun k hk1 hk2 => by
    have hi := HI.out k hk1 hk2
    obtain ⟨a, n, c9, e⟩ := hi.isSlice
    refine ⟨a, n, c9, e, fun w' hE => ?_⟩
    rw [e] at hi
    refine (cloneI_any _ _ w' (hi.below hE) (by have := hl3.1 _ (List.getElem_mem hk2); omega)).mono fun x w'' ⟨u, h1, h2, h3⟩ => ?_
    obtain ⟨a, n, cc, rfl⟩ := ownSlice h2
    exact ⟨a, n, cc, h1, h2, h3⟩
  have HC3 := Lib.hid hrows
  have HC1 := Lib.hid hcl1
  have HC2 := Lib.hid hcl2
  have HONE := Lib.hid hone
  have HSH := Lib.hid hl3
  clear hcl1 hcl2 hs hxl hl1 hl2 hxi hN hchain hr ht hrows hone hl3
  rename_i hjunk
  clear hjunk
  unfold confV
  rw [HT.out]
  have HW0 := Lib.hid hw0
  have HE0 := Lib.hid hE0
  have HA0 := Lib.hid ha0
  have HB0 := Lib.hid hb0
  have HS0 := Lib.hid hs0
  clear hw0 hE0 ha0 hb0 hs0
  go_enter Tryz.func65, Tryz.ntmps65
  go_upto_region 1 with fail
  rw [HW0.out]
  obtain ⟨q, hq⟩ : ∃ q, w.heap.size = q := ⟨_, rfl⟩
  rw [hq] at HA0 HB0 HS0 ⊢
  have HQ := Lib.hid hq
  clear hq
  refine wp_region_tail (by kernel_rfl) 7 Ext (fun iop v w => match iop with
      | 0 => v = .pointer (some ⟨q, 1, none⟩)
      | 1 => v = .slice sa sn sc
      | 2 => ∃ a n cc, v = .slice a n cc ∧ OwnI w (q + 1 + 1) (.slice a n cc) c.seqs
      | 3 => v = .pointer (some ⟨q, 2, none⟩)
      | 4 => v = .slice da N dc
      | 5 => ∃ a cc, v = .slice a N cc ∧ w.ownsRow (q + 1 + 1) 25 1 (.slice a N cc) N xs
      | _ => v = .pointer (some ⟨q, 1, none⟩)
      ) (by kernel_rfl) (by kernel_rfl) (by decide) (fun _ _ _ h k => Ext.trans h k) (fun a => Ext.refl a) (Ext.drew _) ?_ ?_ ?_
  · intro iop v wa wb hF hL
    iterate 2 (rcases iop with _ | iop; exact hF)
    rcases iop with _ | iop; (first | exact hF | (obtain ⟨a, b, c9, h1, h2⟩ := hF; exact ⟨a, b, c9, h1, h2.ext hL⟩) | (obtain ⟨a, b, h1, h2⟩ := hF; exact ⟨a, b, h1, rowExt h2 hL⟩))
    iterate 2 (rcases iop with _ | iop; exact hF)
    rcases iop with _ | iop; (first | exact hF | (obtain ⟨a, b, c9, h1, h2⟩ := hF; exact ⟨a, b, c9, h1, h2.ext hL⟩) | (obtain ⟨a, b, h1, h2⟩ := hF; exact ⟨a, b, h1, rowExt h2 hL⟩))
    exact hF
  · refine Obls.cons ?_ (Obls.cons ?_ (Obls.cons ?_ (Obls.cons ?_ (Obls.cons ?_ (Obls.cons ?_ (Obls.cons ?_ (Obls.nil)))))))
    · intro ev wy hp hl hk hd
      have e1 : ev (.tmp 1) = .pointer (some ⟨q, 0, none⟩) := hk 1 (by decide)
      clear hk hd
      exact Yield.op (v := .pointer (some ⟨q, 1, none⟩)) (w' := wy) (by simp [execOp, go_sem, e1]) ⟨Ext.refl _, rfl⟩
    · intro ev wy hp hl hk hd
      have e5 : ev (.tmp 5) = .pointer (some ⟨q, 1, none⟩) := hk 5 (by decide)
      clear hk hd
      exact Yield.load rfl e5 (by simp [go_sem, cell_of_heap (heap_ext HA0.out hl) 1]) ⟨Ext.refl _, rfl⟩
    · intro ev wy hp hl hk hd
      have e6 : ev (.tmp 6) = .slice sa sn sc := hk 6 (by decide)
      clear hk hd
      refine Yield.call rfl hp Tryz.func113 rfl (by kernel_rfl) ?_
      simp only [List.map_toArray, List.map_cons, List.map_nil, hp.const, e6]
      exact (HC1.out wy hl).mono fun e w' ⟨a, n, cc, he, ho, hE⟩ => ⟨_, he, hE, a, n, cc, rfl, rowLower ho (by have := hl.size; rw [HS0.out] at this; exact this)⟩
    · intro ev wy hp hl hk hd
      have e1 : ev (.tmp 1) = .pointer (some ⟨q, 0, none⟩) := hk 1 (by decide)
      clear hk hd
      exact Yield.op (v := .pointer (some ⟨q, 2, none⟩)) (w' := wy) (by simp [execOp, go_sem, e1]) ⟨Ext.refl _, rfl⟩
    · intro ev wy hp hl hk hd
      have e8 : ev (.tmp 8) = .pointer (some ⟨q, 2, none⟩) := hk 8 (by decide)
      clear hk hd
      exact Yield.load rfl e8 (by simp [go_sem, cell_of_heap (heap_ext HA0.out hl) 2]) ⟨Ext.refl _, rfl⟩
    · intro ev wy hp hl hk hd
      have e9 : ev (.tmp 9) = .slice da N dc := hk 9 (by decide)
      clear hk hd
      refine Yield.call rfl hp Tryz.func114 rfl (by kernel_rfl) ?_
      simp only [List.map_toArray, List.map_cons, List.map_nil, hp.const, e9]
      exact (HC2.out wy hl).mono fun e w' ⟨a, cc, he, ho, hE⟩ => ⟨_, he, hE, a, cc, rfl, rowLower ho (by have := hl.size; rw [HS0.out] at this; exact this)⟩
    · intro ev wy hp hl hk hd
      have e1 : ev (.tmp 1) = .pointer (some ⟨q, 0, none⟩) := hk 1 (by decide)
      clear hk hd
      exact Yield.op (v := .pointer (some ⟨q, 1, none⟩)) (w' := wy) (by simp [execOp, go_sem, e1]) ⟨Ext.refl _, rfl⟩
  · intro vals wz hz hv
    have g5 : vals 0 = .pointer (some ⟨q, 1, none⟩) := hv 0 (by decide)
    have g6 : vals 1 = .slice sa sn sc := hv 1 (by decide)
    have g7 : (fun (v : Value) (w : World) => ∃ a n cc, v = .slice a n cc ∧ OwnI w (q + 1 + 1) (.slice a n cc) c.seqs) (vals 2) wz := hv 2 (by decide)
    have g8 : vals 3 = .pointer (some ⟨q, 2, none⟩) := hv 3 (by decide)
    have g9 : vals 4 = .slice da N dc := hv 4 (by decide)
    have g10 : (fun (v : Value) (w : World) => ∃ a cc, v = .slice a N cc ∧ w.ownsRow (q + 1 + 1) 25 1 (.slice a N cc) N xs) (vals 5) wz := hv 5 (by decide)
    have g11 : vals 6 = .pointer (some ⟨q, 1, none⟩) := hv 6 (by decide)
    clear hv
    simp only [List.take_succ_cons, List.take_zero, List.drop_succ_cons, List.drop_zero]
    simp only [putAll, Act.put, List.setIfInBounds_toArray, List.set_cons_zero, List.set_cons_succ, g5, g6, g8, g9, g11]
    clear g5
    clear g6
    generalize vals 2 = v7 at *
    clear g8
    clear g9
    generalize vals 5 = v10 at *
    clear g11
    obtain ⟨sa', sn', sc', rfl, hS⟩ := g7
    obtain ⟨da', dc', rfl, hD⟩ := g10
    have hA := heap_ext HA0.out hz
    have hB := heap_ext HB0.out hz
    have hc0 := cell_of_heap hA 0
    have hc1 := cell_of_heap hA 1
    have hc2 := cell_of_heap hA 2
    have hf := fun i => frozen_of_heap hA i
    have hE := HE0.out.trans hz
    obtain ⟨w2, hw2⟩ : ∃ w2, (wz.setCell ⟨q, 1, none⟩ (.slice sa' sn' sc')).setCell ⟨q, 2, none⟩ (.slice da' N dc') = w2 := ⟨_, rfl⟩
    have hBut : But q wz w2 := by
      rw [← hw2]
      exact ((But.refl _ _).setCell 1 none _).setCell 2 none _
    have hA2 : w2.heap[q]? = some (.cells #[.int .i64 t, .slice sa' sn' sc', .slice da' N dc'] 48 (0, 0)) := by
      rw [← hw2]
      exact heap_setCell (heap_setCell hA 1 _) 2 _
    have hB2 : w2.heap[q + 1]? = _ := (hBut.block (q + 1) (Array.getElem?_eq_some_iff.1 hB).1 (by omega)).trans hB
    have HA2 := Lib.hid hA2
    have HB2 := Lib.hid hB2
    have HS2 := Lib.hid (hS.but hA (by decide) hBut)
    have HD2 := Lib.hid (rowBut hD (rowBeside hD hA (by decide)) hBut)
    have HE2 := Lib.hid (show Ext w w2 from Below.trans (B := w.heap.size) hE (hBut.below (by have := HQ.out; omega) hE.size))
    have HW2 := Lib.hid hw2
    have k2 := cell_of_heap hA2 2
    simp at k2
    clear hw2 hA2 hB2 hS hD hE hBut hA hB HA0 HB0
    go_wp2_with fail
    rw [HW2.out]
    clear k2 hz
    go_loopw [3, 4, 16] (fun _ _ i wr => ∃ k : Nat, k ≤ N ∧ i = .int .i64 k ∧ Hid (Mixed wr (q + 1 + 1) (.slice da' N dc') xs c.shards k) ∧ Hid (wr.heap[q]? = some (.cells #[.int .i64 t, .slice sa' sn' sc', .slice da' N dc'] 48 (0, 0))) ∧ Hid (wr.heap[q + 1]? = some (.cells #[.int .i64 0, .slice none 0 0, .slice none 0 0] 48 (0, 0))) ∧ Hid (OwnI wr (q + 1 + 1) (.slice sa' sn' sc') c.seqs) ∧ Hid (Ext w wr)) (fun _ _ i _ => N - (intOf i).toNat)
    case atStart =>
      exact ⟨0, by omega, rfl, Lib.hid ⟨xs, by rw [HN.out.1]; exact HD2.out, rfl, fun i _ _ h => absurd h (by omega), fun i _ => rfl⟩, HA2, HB2, HS2, HE2⟩
    case round =>
      obtain ⟨k, hk, rfl, HM, HA, HB, HO, HE⟩ := hrel
      by_cases hlt : k < N
      · have hkx : k < xs.length := by have := HN.out.1; omega
        have hkc : k < c.shards.length := by have := HN.out; omega
        obtain ⟨g, cc, e9, hcell, hfz, hcc⟩ := HM.out.rest hkx
        injection e9 with e1 e2 e3
        subst e1 e3
        obtain ⟨xa, xn, xc, hx, hcl⟩ := HC3.out k hkx hkc
        rw [hx] at hcell
        obtain ⟨R, hR⟩ : ∃ R, c.shards[k] = R := ⟨_, rfl⟩
        rw [hR] at hcl
        have HCL := Lib.hid (fun wy (h : Ext wr wy) => hcl wy (HE.out.trans h))
        have HH := Lib.hid (show ∃ h1 : k < xs.length, ∃ h2 : k < c.shards.length, c.shards[k] = R from ⟨hkx, hkc, hR⟩)
        have hcc2 : N ≤ dc' := by have := HN.out.1; omega
        have HFZ := Lib.hid hfz
        have hqs : q + 1 + 1 ≤ wr.heap.size := by
          have := (Array.getElem?_eq_some_iff.1 HB.out).1
          omega
        have HQS := Lib.hid hqs
        have hka := cell_of_heap HA.out 2
        simp at hka
        clear hx hcl hR hkx hkc hcc e2 hfz hqs
        go_upto_region 5 with fail
        refine wp_region_tail (by kernel_rfl) 5 Ext (fun iop v w => match iop with
            | 0 => v = .pointer (some ⟨q, 2, none⟩)
            | 1 => v = .slice (some ⟨g, 0, none⟩) N dc'
            | 2 => v = .int .i64 (k : Int)
            | 3 => v = .slice xa xn xc
            | _ => ∃ a n cc, v = .slice a n cc ∧ OwnI w (q + 1 + 1) (.slice a n cc) R
            ) (by kernel_rfl) (by kernel_rfl) (by decide) (fun _ _ _ h k => Ext.trans h k) (fun a => Ext.refl a) (Ext.drew _) ?_ ?_ ?_
        · intro iop v wa wb hF hL
          iterate 4 (rcases iop with _ | iop; exact hF)
          (first | exact hF | (obtain ⟨a, b, c9, h1, h2⟩ := hF; exact ⟨a, b, c9, h1, h2.ext hL⟩))
        · refine Obls.cons ?_ (Obls.cons ?_ (Obls.cons ?_ (Obls.cons ?_ (Obls.cons ?_ (Obls.nil)))))
          · intro ev wy hp hl hk hd
            have e1 : ev (.tmp 1) = .pointer (some ⟨q, 0, none⟩) := hk 1 (by decide)
            clear hk hd
            exact Yield.op (v := .pointer (some ⟨q, 2, none⟩)) (w' := wy) (by simp [execOp, go_sem, e1]) ⟨Ext.refl _, rfl⟩
          · intro ev wy hp hl hk hd
            have e21 : ev (.tmp 21) = .pointer (some ⟨q, 2, none⟩) := hk 21 (by decide)
            clear hk hd
            exact Yield.load rfl e21 (by simp [go_sem, cell_of_heap (heap_ext HA.out hl) 2]) ⟨Ext.refl _, rfl⟩
          · intro ev wy hp hl hk hd
            have e3 : ev (.tmp 3) = .int .i64 (k : Int) := hk 3 (by decide)
            clear hk hd
            exact Yield.mv rfl ⟨Ext.refl _, e3⟩
          · intro ev wy hp hl hk hd
            have e4 : ev (.tmp 4) = .slice xa xn xc := hk 4 (by decide)
            clear hk hd
            exact Yield.mv rfl ⟨Ext.refl _, e4⟩
          · intro ev wy hp hl hk hd
            have e24 : ev (.tmp 24) = .slice xa xn xc := hk 24 (by decide)
            clear hk hd
            refine Yield.call rfl hp Tryz.func113 rfl (by kernel_rfl) ?_
            simp only [List.map_toArray, List.map_cons, List.map_nil, hp.const, e24]
            exact (HCL.out wy hl).mono fun e w' ⟨a, n, cc, he, ho, hE⟩ => ⟨_, he, hE, a, n, cc, rfl, rowLower ho (Nat.le_trans HQS.out hl.size)⟩
        · intro vals wz hz hv
          have g21 : vals 0 = .pointer (some ⟨q, 2, none⟩) := hv 0 (by decide)
          have g22 : vals 1 = .slice (some ⟨g, 0, none⟩) N dc' := hv 1 (by decide)
          have g23 : vals 2 = .int .i64 (k : Int) := hv 2 (by decide)
          have g24 : vals 3 = .slice xa xn xc := hv 3 (by decide)
          have g25 : (fun (v : Value) (w : World) => ∃ a n cc, v = .slice a n cc ∧ OwnI w (q + 1 + 1) (.slice a n cc) R) (vals 4) wz := hv 4 (by decide)
          clear hv
          simp only [List.take_succ_cons, List.take_zero, List.drop_succ_cons, List.drop_zero]
          simp only [putAll, Act.put, List.setIfInBounds_toArray, List.set_cons_zero, List.set_cons_succ, g21, g22, g23, g24]
          clear g21
          clear g22
          clear g23
          clear g24
          generalize vals 4 = v25 at *
          obtain ⟨ua, un, uc, rfl, hu⟩ := g25
          obtain ⟨hkx, hkc, hR⟩ := HH.out
          rw [← hR] at hu
          have hM := HM.out.ext hz
          obtain ⟨hM2, hge, _⟩ := hM.next hkx hkc hu
          obtain ⟨g', cc', e9, hcell', hfz', _⟩ := hM.rest hkx
          have eg : g = g' := by
            injection e9 with e1 _ _
            injection e1 with e1
            injection e1 with e1
          subst eg
          obtain ⟨z9, hz9⟩ : ∃ z, xs[k] = z := ⟨_, rfl⟩
          rw [hz9] at hcell'
          clear e9 hz9
          obtain ⟨w4, hw4⟩ : ∃ w4, wz.setCell ⟨g, k, none⟩ (.slice ua un uc) = w4 := ⟨_, rfl⟩
          have hBt : But g wz w4 := by rw [← hw4]; exact butSet _ _ _ _
          obtain ⟨cs, hcs⟩ : ∃ cs, wz.heap[g]? = some (.cells cs 25 (0, 0)) := by
            obtain ⟨ys, h1, _⟩ := hM
            exact ownCells h1 rfl
          have HA4 := Lib.hid ((hBt.block q (by have := hz.size; have := HQS.out; omega) (by omega)).trans (heap_ext HA.out hz))
          have HB4 := Lib.hid ((hBt.block (q + 1) (by have := hz.size; have := HQS.out; omega) (by omega)).trans (heap_ext HB.out hz))
          have HO4 := Lib.hid ((HO.out.ext hz).but hcs (by decide) hBt)
          have HE4 := Lib.hid (show Ext w w4 from Below.trans (B := w.heap.size) (HE.out.trans hz) (hBt.below (by have := HQ.out; omega) (HE.out.trans hz).size))
          rw [hw4] at hM2
          have HM4 := Lib.hid hM2
          have HW4 := Lib.hid hw4
          clear hw4 hBt hM hM2 hu hcell hcs hka hz hge hR hkx hkc
          go_wp2_with fail
          rw [HW4.out]
          go_roundw
          case rel => exact ⟨k + 1, by omega, by go_num, HM4, HA4, HB4, HO4, HE4⟩
          case measure => simp [intOf]; omega
      · have hkN : k = N := by omega
        subst hkN
        have k0 := cell_of_heap HA.out 0
        have k1 := cell_of_heap HA.out 1
        have k2 := cell_of_heap HA.out 2
        have b0 := cell_of_heap HB.out 0
        have b1 := cell_of_heap HB.out 1
        have b2 := cell_of_heap HB.out 2
        have fb := fun i => frozen_of_heap HB.out i
        simp at k0 k1 k2 b0 b1 b2
        go_wp2_with fail
        obtain ⟨w5, hw5⟩ : ∃ w5, ((wr.setCell ⟨q + 1, 0, none⟩ (.int .i64 t)).setCell ⟨q + 1, 1, none⟩ (.slice sa' sn' sc')).setCell ⟨q + 1, 2, none⟩ (.slice da' k dc') = w5 := ⟨_, rfl⟩
        have hBt : But (q + 1) wr w5 := by
          rw [← hw5]
          exact (((But.refl _ _).setCell 0 none _).setCell 1 none _).setCell 2 none _
        have hB5 : w5.heap[q + 1]? = some (.cells #[.int .i64 t, .slice sa' sn' sc', .slice da' k dc'] 48 (0, 0)) := by
          rw [← hw5]
          exact heap_setCell (heap_setCell (heap_setCell HB.out 0 _) 1 _) 2 _
        have m0 := cell_of_heap hB5 0
        have m1 := cell_of_heap hB5 1
        have m2 := cell_of_heap hB5 2
        simp at m0 m1 m2
        rw [hw5]
        refine bodyPost_ret (v := confV t (.slice sa' sn' sc') (.slice da' k dc')) (by simp [results, Tryz.results65, go_sem, m0, m1, m2, confV]) rfl ?_
        refine ⟨_, _, by rw [HT.out], ?_, ?_, ?_⟩
        · exact rowLower (HO.out.but HB.out (by decide) hBt) (by have := HQ.out; omega)
        · have hd := HM.out.done HN.out.2 (by have := HN.out; omega)
          exact (hd.but HB.out (by decide) (by decide) hBt).lower (by have := HQ.out; omega)
        · exact Below.trans (B := w.heap.size) HE.out (hBt.below (by have := HQ.out; omega) HE.out.size)
/- Layer 10: Progress. -/
section
variable {w w' : World} {B x M1 M2 o : Nat} {col col' : Nat → Nat} {cvs : List (Value × Term.C)} {gvs : List (Nat × (Int × Int) × Seg.Sg)} {n : Shd.Nd}
theorem NodeC.lookConf (h : NodeC w B x M1 M2 o col cvs gvs n) {t : Int} (ht : Wf64 t) : ∃ v b, (∀ w', Ext w w' → (Instr.lookup 115 (.map (some M1)) (.int .i64 t) true).run Tryz.prog w' = .ok (.tuple #[v, .bool b]) w') ∧
    ((b = true ∧ ∃ c, n.conf t = some c ∧ c.term = t ∧ Held w col (fun w' => IsConf w' v c)) ∨ (b = false ∧ v = .agg #[.int .i64 0, .slice none 0 0, .slice none 0 0] ∧ n.conf t = none)) := by
  by_cases hm : Value.int .i64 t ∈ (confsOf cvs).map (·.1)
  · obtain ⟨q, hq, he⟩ := List.mem_map.1 hm
    obtain ⟨k, v⟩ := q
    simp only at he
    subst he
    obtain ⟨c, h1, h2, h3, _⟩ := h.hasConf hq
    exact ⟨v, true, fun w' hE => ((h.ext hE).blk.confs).found int10_keyed Tryz.underlying115 hq, .inl ⟨rfl, c, h1, h2, h3⟩⟩
  · exact ⟨_, false, fun w' hE => ((h.ext hE).blk.confs).lost int10_keyed Tryz.underlying115 (int10_key ht) hm (by kernel_rfl), .inr ⟨rfl, rfl, h.noConf hm⟩⟩
end
/-- What Progress tells. -/
def GivesProg (w : World) (p : Option (List Int)) (e : Ending) (w' : World) : Prop := ∃ v, e = .returned (.tuple #[v, .bool p.isSome]) ∧ OwnI w' w.heap.size v (p.getD []) ∧ Ext w w'
set_option maxHeartbeats 8000000 in
theorem progress10_any {w : World} {B x o : Nat} {col : Nat → Nat} {n : Shd.Nd} (h : IsNode w B x o col n) (hg : Shd.Good n) (t : Int) (ht : Wf64 t) :
    Calls Tryz.prog 20 #[.pointer (some ⟨x, 0, none⟩), .int .i64 t] w (GivesProg w (n.progress t)) := by
  obtain ⟨M1, M2, cvs, gvs, hN⟩ := h
  obtain ⟨cv, b, hlk, hcase⟩ := hN.lookConf ht
  have hlk0 := hlk w (Ext.refl w)
  have HCASE := Lib.hid hcase
  have HN := Lib.hid hN
  have HG := Lib.hid hg
  have HT := Lib.hid ht
  have k1 := cell_of_heap hN.blk.heap 1
  simp at k1
  clear hcase hN hg ht hlk
  cases b with
  | false =>
    rcases HCASE.out with ⟨h0, _⟩ | ⟨_, hv, hn⟩
    · cases h0
    subst hv
    have HP := Lib.hid (show n.progress t = none by unfold Shd.Nd.progress; rw [hn]; rfl)
    clear hn
    go_enter Tryz.func20, Tryz.ntmps20
    go_wp2_with fail
    go_ret2
    exact ⟨.slice none 0 0, by rw [HP.out]; rfl, by rw [HP.out]; exact OwnI.nil _ _, Ext.alloc _ _⟩
  | true =>
    obtain ⟨c, hcn, hct, hheld⟩ : ∃ c, n.conf t = some c ∧ c.term = t ∧ Held w col (fun w' => IsConf w' cv c) := by
      rcases HCASE.out with ⟨_, h0⟩ | ⟨h0, _⟩
      · exact h0
      · cases h0
    obtain ⟨s9, d9, rfl, hs9, hd9⟩ := hheld.is
    obtain ⟨hl1, hl2, hl3, hl4⟩ := rightSmall (HG.out.conf hcn)
    have HR := Lib.hid (HG.out.conf hcn)
    obtain ⟨xs, hxs, hxl, _⟩ := hd9
    obtain ⟨L, hL⟩ : ∃ L, c.shards.length = L := ⟨_, rfl⟩
    have hxL : xs.length = L := hxl.trans hL
    obtain ⟨da, dc, rfl, hdc⟩ := hxs
    rw [hxL] at hlk0
    obtain ⟨sa, sn, sc, rfl⟩ := hs9.isSlice
    have HP := Lib.hid (show n.progress t = some (Shd.prog n t L) by rw [Shd.progress_is hcn, hL])
    have hL8 : L ≤ 8 := by omega
    have HL1 := Lib.hid (show 1 ≤ L by
      have := HR.out
      unfold Term.right at this
      simp only [Bool.and_eq_true, decide_eq_true_eq] at this
      omega)
    unfold confV at hlk0
    clear hcn hheld hs9 hl1 hl2 hl3 hl4 hxl hL hdc hct hxL
    go_enter Tryz.func20, Tryz.ntmps20
    go_wp2_with fail
    obtain ⟨w1, hw1⟩ : ∃ w1, w.alloc (.cells #[.int .i64 c.term, .slice sa sn sc, .slice da L dc] 48) = w1 := ⟨_, rfl⟩
    have hE1 : Ext w w1 := by rw [← hw1]; exact Ext.alloc _ _
    rw [hw1]
    refine (zero_any (L : Int) w1).mono ?_
    have hzz : zeros (L : Int) = List.replicate L 0 := by
      unfold zeros
      rw [if_pos (by have := HL1.out; omega)]
      simp
    rw [hzz]
    rintro e w2 ⟨u, rfl, hu, hB2⟩
    obtain ⟨ua, un, uc, rfl⟩ := ownSlice hu
    have hE2 := hE1.trans hB2
    have hun : un = L := by
      obtain ⟨a', c', e, _⟩ := hu.ints.open
      injection e with _ e _
      simpa using e
    subst hun
    have hg2 : ∃ g, ua = some ⟨g, 0, none⟩ ∧ g < w2.heap.size ∧ w.heap.size ≤ g := by
      have hu' := hu
      obtain ⟨_, h | ⟨g, cap, cur, e, hg, _, hn, _⟩⟩ := hu
      · have := HL1.out; simp at h; omega
      · injection e with e1 e2 e3
        exact ⟨g, e1, (World.ownsRow.lt hu' g (by rw [e1]; rfl)).2, Nat.le_trans hE1.size hg⟩
    obtain ⟨g, rfl, hgl, hgw⟩ := hg2
    have HU := Lib.hid (show OwnI w2 w.heap.size (.slice (some ⟨g, 0, none⟩) un uc) (List.replicate un 0) from rowLower hu hE1.size)
    have HE2 := Lib.hid hE2
    have HGL := Lib.hid (And.intro hgl hgw)
    clear hu hE1 hE2 hw1 hzz hB2 hgl hgw
    go_wp2_with fail
    refine (finder10_any x t w2).mono ?_
    rintro e w3 ⟨rfl, hE3, hb1, hb2, hs3⟩
    obtain ⟨bn, hbn⟩ : ∃ z, w2.heap.size = z := ⟨_, rfl⟩
    rw [hbn] at hb1 hb2 ⊢
    have HB := Lib.hid (And.intro hb1 hb2)
    have HU3 := Lib.hid (HU.out.ext hE3)
    have HE3 := Lib.hid (HE2.out.trans hE3)
    have HBN := Lib.hid (show g < bn ∧ w.heap.size ≤ g ∧ w.heap.size ≤ bn from ⟨by rw [← hbn]; exact HGL.out.1, HGL.out.2, by rw [← hbn]; exact HE2.out.size⟩)
    clear hb1 hb2 hE3 hs3 hbn hlk0 k1
    go_wp2_with fail
    trace_state
    go_loopw [10, 11, 12, 33] (fun _ _ _ i wr => ∃ k : Nat, k ≤ un ∧ i = .int .i64 k ∧ Hid (OwnI wr w.heap.size (.slice (some ⟨g, 0, none⟩) un uc) (Shd.part n t un k)) ∧ Hid (wr.heap[bn]? = some (.cells #[.pointer (some ⟨x, 0, none⟩)] 37 (0, 0)) ∧ wr.heap[bn + 1]? = some (.cells #[.int .i64 t] 3 (0, 0))) ∧ Hid (Ext w wr)) (fun _ _ _ i _ => un - (intOf i).toNat)
    case atStart => exact ⟨0, by omega, rfl, by rw [Shd.part_zero]; exact HU3, HB, HE3⟩
    case round =>
      obtain ⟨k, hk, rfl, HO, HB, HE⟩ := hrel
      by_cases hlt : k < un
      · have hN := HN.out.ext HE.out
        have wk : (Lit.int .i64 (k : Int)).wf = true := wfOf (by omega)
        cases hf : n.find t (k : Int) with
        | none =>
          have hfd := hN.findN_none (bn := bn) (bt := bn + 1) HT.out wk HB.out.1 HB.out.2 hf
          have HFD := Lib.hid hfd
          have HPN := Lib.hid (Shd.part_none n t hlt hf)
          clear hfd hf hN wk
          go_wp2_with fail
          refine HFD.out.mono ?_
          rintro e w4 ⟨rfl, hE4⟩
          have HE4 := Lib.hid hE4
          clear hE4
          go_wp2_with fail
          go_roundw
          case rel => exact ⟨k + 1, by omega, by go_num, by rw [HPN.out]; exact Lib.hid (HO.out.ext HE4.out), Lib.hid ⟨heap_ext HB.out.1 HE4.out, heap_ext HB.out.2 HE4.out⟩, Lib.hid (HE.out.trans HE4.out)⟩
          case measure => simp [intOf]; omega
        | some G =>
          obtain ⟨i, hi, hkey, hG⟩ := hN.find_some hf
          have hfd := hN.findN_some (bn := bn) (bt := bn + 1) HT.out wk HB.out.1 HB.out.2 hkey
          obtain ⟨p, va, vp, lv, ps, hs⟩ := hN.segs i hi
          have hsf := fun wy (hE : Ext wr wy) => segsafe_any (hs.seg.seg.ext hE)
          rw [hG] at hsf
          obtain ⟨gg, hgg⟩ : ∃ z, gvs[i].1 = z := ⟨_, rfl⟩
          rw [hgg] at hfd hsf
          obtain ⟨K, hK⟩ : ∃ z, G.safe = z := ⟨_, rfl⟩
          rw [hK] at hsf
          have HPS := Lib.hid (show Shd.part n t un (k + 1) = (Shd.part n t un k).set k (K : Int) by rw [Shd.part_succ n t hlt, hf, ← hK])
          have HFD := Lib.hid hfd
          have HSF := Lib.hid hsf
          clear hfd hf hN wk hs hsf hgg hK hkey hG
          go_wp2_with fail
          refine HFD.out.mono ?_
          rintro e w4 ⟨rfl, hE4⟩
          have HE4 := Lib.hid hE4
          clear hE4
          go_wp2_with fail
          refine (HSF.out w4 HE4.out).mono ?_
          rintro e w5 ⟨rfl, rfl⟩
          have hO4 := HO.out.ext HE4.out
          have hst := World.ownsRow.stored (by have := hO4; unfold OwnI at this; rw [Shd.part_len n t (Nat.le_of_lt hlt)] at this; exact this) k (.int .i64 (K : Int))
          have hcl := hO4
          unfold OwnI at hcl
          rw [Shd.part_len n t (Nat.le_of_lt hlt)] at hcl
          have hc1 := hcl.cellAt k (by simpa [Shd.part_len n t (Nat.le_of_lt hlt)] using hlt)
          have hc2 := hcl.frozenAt k
          obtain ⟨y9, hy9⟩ : ∃ y, (i64s (Shd.part n t un k))[k]? = some y := ⟨_, List.getElem?_eq_getElem (by rw [i64s_length, Shd.part_len n t (Nat.le_of_lt hlt)]; exact hlt)⟩
          rw [hy9] at hc1
          clear hy9
          obtain ⟨cs, hcs⟩ := ownCells hcl (g := g) rfl
          have hHB := hcs
          obtain ⟨w6, hw6⟩ : ∃ z, w4.setCell ⟨g, k, none⟩ (.int .i64 (K : Int)) = z := ⟨_, rfl⟩
          have hB6 : But g w4 w6 := by rw [← hw6]; exact butSet _ _ _ _
          have HO6 := Lib.hid (show OwnI w6 w.heap.size (.slice (some ⟨g, 0, none⟩) un uc) (Shd.part n t un (k + 1)) by
            unfold OwnI
            rw [Shd.part_len n t (by omega : k + 1 ≤ un), HPS.out, i64s_set, ← hw6]
            exact hst.1)
          have hbl := HB.out
          have h4 := heap_ext hbl.1 HE4.out
          have h5 := heap_ext hbl.2 HE4.out
          have HB6 := Lib.hid (And.intro ((hB6.block bn (Array.getElem?_eq_some_iff.1 h4).1 (by have := HBN.out.1; omega)).trans h4) ((hB6.block (bn + 1) (Array.getElem?_eq_some_iff.1 h5).1 (by have := HBN.out.1; omega)).trans h5))
          have HE6 := Lib.hid (show Ext w w6 from Below.trans (B := w.heap.size) (HE.out.trans HE4.out) (hB6.below HBN.out.2.1 (HE.out.trans HE4.out).size))
          have HW6 := Lib.hid hw6
          clear hw6 hB6 hst hcl hcs hHB hbl h4 h5 hO4
          go_wp2_with fail
          rw [HW6.out]
          go_roundw
          case rel => exact ⟨k + 1, by omega, by go_num, HO6, HB6, HE6⟩
          case measure => simp [intOf]; omega
      · obtain rfl : k = un := by omega
        go_wp2_with fail
        go_ret2
        have hO := HO.out
        rw [Shd.part_all] at hO
        exact ⟨_, by rw [HP.out]; rfl, by rw [HP.out]; exact hO, HE.out⟩
/- Layer 10: Trim. -/
namespace Shd
def overAt (n : Nd) (t : Int) (u : Int) (k : Nat) : Bool := decide (u < 0) || (match n.find t (k : Int) with | some G => decide ((G.len : Int) < u) | none => false)
theorem over_at {n : Nd} {t : Int} {upto : List Int} {k : Nat} (hk : k < upto.length) (h : overAt n t upto[k] k = true) : over n t upto = true := by
  unfold over
  rw [List.any_eq_true]
  refine ⟨k, List.mem_range.2 hk, ?_⟩
  rw [List.getD_eq_getElem?_getD, List.getElem?_eq_getElem hk, Option.getD_some]
  exact h
theorem over_not {n : Nd} {t : Int} {upto : List Int} (h : ∀ k (hk : k < upto.length), overAt n t upto[k] k = false) : over n t upto = false := by
  unfold over
  rw [List.any_eq_false]
  intro k hk
  have hk := List.mem_range.1 hk
  rw [List.getD_eq_getElem?_getD, List.getElem?_eq_getElem hk, Option.getD_some]
  exact fun hh => absurd ((h k hk).symm.trans hh) (by decide)
theorem trim_none {n : Nd} {t : Int} (upto : List Int) (h : n.conf t = none) : n.trim t upto = (n, 100) := by
  unfold Nd.trim
  rw [h]
theorem trim_len {n : Nd} {t : Int} {upto : List Int} {c : Term.C} (h : n.conf t = some c) (hl : upto.length ≠ c.shards.length) : n.trim t upto = (n, 1) := by
  unfold Nd.trim
  rw [h]
  simp only
  rw [if_pos hl]
theorem trim_over {n : Nd} {t : Int} {upto : List Int} {c : Term.C} (h : n.conf t = some c) (hl : upto.length = c.shards.length) (ho : over n t upto = true) : n.trim t upto = (n, 1) := by
  unfold Nd.trim
  rw [h]
  simp only
  rw [if_neg (by simpa using hl), if_pos ho]
theorem trim_all {n : Nd} {t : Int} {upto : List Int} {c : Term.C} (h : n.conf t = some c) (hl : upto.length = c.shards.length) (ho : over n t upto = false) : n.trim t upto = trims t upto 0 n := by
  unfold Nd.trim
  rw [h]
  simp only
  rw [if_neg (by simpa using hl), if_neg (by simp [ho])]
theorem trims_none {n : Nd} {t u : Int} {us : List Int} {k : Nat} (h : n.find t (k : Int) = none) : trims t (u :: us) k n = trims t us (k + 1) n := by
  rw [trims, h]
theorem trims_next {n : Nd} {t u : Int} {us : List Int} {k : Nat} {G : Seg.Sg} (h : n.find t (k : Int) = some G) (h0 : G.trimErr u = 0) : trims t (u :: us) k n = trims t us (k + 1) ⟨n.id, n.cs, turn (at1 (t, (k : Int)) fun G => G.trim u) n.gs⟩ := by
  rw [trims, h]
  simp only
  rw [if_pos h0]
theorem trims_stop {n : Nd} {t u : Int} {us : List Int} {k : Nat} {G : Seg.Sg} (h : n.find t (k : Int) = some G) (h0 : G.trimErr u ≠ 0) : trims t (u :: us) k n = (⟨n.id, n.cs, turn (at1 (t, (k : Int)) fun G => G.trim u) n.gs⟩, G.trimErr u) := by
  rw [trims, h]
  simp only
  rw [if_neg h0]
end Shd
/-- The state of a row of calls on segments. -/
structure Mid10 (w : World) (B x M1 M2 o : Nat) (col : Nat → Nat) (cvs : List (Value × Term.C)) (bn : Nat) (wr : World) (col' : Nat → Nat) (gvs' : List (Nat × (Int × Int) × Seg.Sg)) (nk : Shd.Nd) : Prop where
  node : NodeC wr B x M1 M2 o col' cvs gvs' nk
  tw : TwS (fun k => Mine o (col k)) w wr
  ag : Agree w col col'
  b0 : col' bn = 0
  b1 : col' (bn + 1) = 0
theorem Mid10.ext {w wr w' : World} {B x M1 M2 o bn : Nat} {col col' : Nat → Nat} {cvs : List (Value × Term.C)} {gvs' : List (Nat × (Int × Int) × Seg.Sg)} {nk : Shd.Nd} (h : Mid10 w B x M1 M2 o col cvs bn wr col' gvs' nk) (hE : Ext wr w') : Mid10 w B x M1 M2 o col cvs bn w' col' gvs' nk :=
  ⟨h.node.ext hE, h.tw.trans (TwS.ext hE), h.ag, h.b0, h.b1⟩
theorem Mid10.leaves {w wr : World} {B x M1 M2 o bn : Nat} {col col' : Nat → Nat} {cvs : List (Value × Term.C)} {gvs' : List (Nat × (Int × Int) × Seg.Sg)} {nk : Shd.Nd} (h : Mid10 w B x M1 M2 o col cvs bn wr col' gvs' nk) : LeavesNode B x o col w nk wr := ⟨col', ⟨M1, M2, cvs, gvs', h.node⟩, h.tw, h.ag⟩
/-- What a call tells that tells an error alone. -/
def GivesErr10 (B x o : Nat) (col : Nat → Nat) (w : World) (r : Shd.Nd × Int) (e : Ending) (w' : World) : Prop := e = .returned (.int .i64 r.2) ∧ LeavesNode B x o col w r.1 w'
set_option maxHeartbeats 16000000 in
theorem trim10_any {w : World} {B x o : Nat} {col : Nat → Nat} {n : Shd.Nd} (h : IsNode w B x o col n) (t : Int) (ht : Wf64 t) (v : Value) (upto : List Int) (hv : ∀ w', TwS (fun k => col k ≠ 0) w w' → Ints w' v upto) :
    Calls Tryz.prog 50 #[.pointer (some ⟨x, 0, none⟩), .int .i64 t, v] w (GivesErr10 B x o col w (n.trim t upto)) := by
  obtain ⟨M1, M2, cvs, gvs, hN⟩ := h
  obtain ⟨cv, b, hlk, hcase⟩ := hN.lookConf ht
  have hlk0 := hlk w (Ext.refl w)
  have HCASE := Lib.hid hcase
  have HN := Lib.hid hN
  have HT := Lib.hid ht
  have hq0 : ∀ j, col (w.heap.size + j) = 0 := fun j => Classical.byContradiction fun hc => by have := hN.cover _ hc; omega
  have HQ0 := Lib.hid hq0
  have k1 := cell_of_heap hN.blk.heap 1
  simp at k1
  obtain ⟨va, un, vc, rfl⟩ := (hv w (TwS.ext (Ext.refl w))).isSlice
  have hun : un = upto.length := ((hv w (TwS.ext (Ext.refl w))).len).1
  have HUN := Lib.hid hun
  have hub : un ≤ 9223372036854775807 := by have := (hv w (TwS.ext (Ext.refl w))).len; omega
  have HV := Lib.hid hv
  clear hcase hN ht hlk hv hun hq0
  cases b with
  | false =>
    rcases HCASE.out with ⟨h0, _⟩ | ⟨_, hv, hn⟩
    · cases h0
    subst hv
    have HP := Lib.hid (Shd.trim_none upto hn)
    clear hn
    go_enter Tryz.func50, Tryz.ntmps50
    go_wp2_with fail
    go_ret
    unfold GivesErr10
    rw [HP.out]
    exact ⟨rfl, LeavesNode.refl ⟨M1, M2, cvs, gvs, HN.out⟩ (Ext.alloc _ _)⟩
  | true =>
    obtain ⟨c, hcn, hct, hheld⟩ : ∃ c, n.conf t = some c ∧ c.term = t ∧ Held w col (fun w' => IsConf w' cv c) := by
      rcases HCASE.out with ⟨_, h0⟩ | ⟨h0, _⟩
      · exact h0
      · cases h0
    obtain ⟨s9, d9, rfl, hs9, hd9⟩ := hheld.is
    have HCN := Lib.hid hcn
    obtain ⟨L, hL⟩ : ∃ L, c.shards.length = L := ⟨_, rfl⟩
    obtain ⟨da, dc, rfl, hdc, hdm, _⟩ := hd9.open
    rw [hL] at hlk0 hdc
    obtain ⟨sa, sn, sc, rfl⟩ := hs9.isSlice
    have HL := Lib.hid hL
    unfold maxLen at hdm
    unfold confV at hlk0
    obtain ⟨ct, hct2⟩ : ∃ z, c.term = z := ⟨_, rfl⟩
    rw [hct2] at hlk0
    clear hcn hheld hs9 hd9 hL hct hct2
    by_cases hul : un = L
    case neg =>
      have g1 : ((un : Int) == (L : Int)) = false := by simp; omega
      have g2 : ((un : Int) != (L : Int)) = true := by simp; omega
      have g3 : ¬ (un : Int) = (L : Int) := by omega
      have HP := Lib.hid (Shd.trim_len HCN.out (by rw [HL.out, ← HUN.out]; exact hul))
      go_enter Tryz.func50, Tryz.ntmps50
      go_wp2_with fail
      go_ret
      unfold GivesErr10
      rw [HP.out]
      exact ⟨rfl, LeavesNode.refl ⟨M1, M2, cvs, gvs, HN.out⟩ (Ext.alloc _ _)⟩
    subst hul
    go_enter Tryz.func50, Tryz.ntmps50
    go_wp2_with fail
    obtain ⟨w1, hw1⟩ : ∃ w1, w.alloc (.cells #[.int .i64 ct, .slice sa sn sc, .slice da un dc] 48) = w1 := ⟨_, rfl⟩
    have hE1 : Ext w w1 := by rw [← hw1]; exact Ext.alloc _ _
    have hz1 : w.heap.size < w1.heap.size := by rw [← hw1, World.size_alloc]; omega
    rw [hw1]
    refine (finder10_any x t w1).mono ?_
    rintro e w3 ⟨rfl, hE3, hb1, hb2, hs3⟩
    obtain ⟨bn, hbn⟩ : ∃ z, w1.heap.size = z := ⟨_, rfl⟩
    rw [hbn] at hb1 hb2 ⊢
    have HB := Lib.hid (And.intro hb1 hb2)
    have HE3 := Lib.hid (hE1.trans hE3)
    have HBN := Lib.hid (show w.heap.size ≤ bn by omega)
    clear hb1 hb2 hE3 hs3 hbn hlk0 k1 hE1 hz1 hw1
    go_wp2_with fail
    go_loopw [10, 11, 12, 13, 41] (fun _ _ _ _ i wr => ∃ k : Nat, k ≤ un ∧ i = .int .i64 k ∧ Hid (∀ j (h : j < upto.length), j < k → Shd.overAt n t upto[j] j = false) ∧ Hid (wr.heap[bn]? = some (.cells #[.pointer (some ⟨x, 0, none⟩)] 37 (0, 0)) ∧ wr.heap[bn + 1]? = some (.cells #[.int .i64 t] 3 (0, 0))) ∧ Hid (Ext w wr)) (fun _ _ _ _ i _ => un - (intOf i).toNat)
    case atStart => exact ⟨0, by omega, rfl, Lib.hid (fun j _ h => absurd h (by omega)), HB, HE3⟩
    case round =>
      obtain ⟨k, hk, rfl, HO, HB, HE⟩ := hrel
      by_cases hlt : k < un
      · have hN := HN.out.ext HE.out
        have wk : (Lit.int .i64 (k : Int)).wf = true := wfOf (by omega)
        have hku : k < upto.length := by rw [← HUN.out]; exact hlt
        obtain ⟨a9, c9, e9, hc9, hm9, _, hcell⟩ := (HV.out wr (TwS.ext HE.out)).open
        obtain ⟨vb, vo, hva, hcell⟩ := hcell k hku
        injection e9 with e1 e2 e3
        rw [hva] at e1
        subst e1
        obtain ⟨y, hy⟩ : ∃ y, upto[k] = y := ⟨_, rfl⟩
        rw [hy] at hcell
        have HY := Lib.hid (show ∃ h : k < upto.length, upto[k] = y from ⟨hku, hy⟩)
        clear hc9 hm9 e2 e3 hva hku hy
        have hnext : Shd.overAt n t y k = false → ∀ j (h : j < upto.length), j < k + 1 → Shd.overAt n t upto[j] j = false := fun h0 j hj hjk => by
          by_cases e : j = k
          · subst e
            obtain ⟨_, e⟩ := HY.out
            rw [e]; exact h0
          · exact HO.out j hj (by omega)
        have HNX := Lib.hid hnext
        have hover : Shd.overAt n t y k = true → n.trim t upto = (n, 1) := fun h0 => by
          obtain ⟨h1, e⟩ := HY.out
          exact Shd.trim_over HCN.out (by rw [HL.out, ← HUN.out]) (Shd.over_at h1 (by rw [e]; exact h0))
        have HOV := Lib.hid hover
        clear hnext hover
        cases hf : n.find t (k : Int) with
        | none =>
          have hfd := hN.findN_none (bn := bn) (bt := bn + 1) HT.out wk HB.out.1 HB.out.2 hf
          have HFD := Lib.hid hfd
          have hoa : Shd.overAt n t y k = decide (y < 0) := by
            unfold Shd.overAt
            rw [hf, Bool.or_false]
          have HOA := Lib.hid hoa
          clear hfd hf hN wk hoa
          go_wp2_with fail
          refine HFD.out.mono ?_
          rintro e w4 ⟨rfl, hE4⟩
          have HE4 := Lib.hid hE4
          clear hE4 hcell
          by_cases hy0 : y < 0
          · have g1 : decide (y < 0) = true := by simp [hy0]
            have HP := Lib.hid (HOV.out (by rw [HOA.out]; exact g1))
            go_wp2_with fail
            go_ret
            unfold GivesErr10
            rw [HP.out]
            exact ⟨rfl, LeavesNode.refl ⟨M1, M2, cvs, gvs, HN.out⟩ (HE.out.trans HE4.out)⟩
          · have g1 : decide (y < 0) = false := by simp [hy0]
            have HNX2 := Lib.hid (HNX.out (by rw [HOA.out]; exact g1))
            go_wp2_with fail
            go_roundw
            case rel => exact ⟨k + 1, by omega, by go_num, HNX2, Lib.hid ⟨heap_ext HB.out.1 HE4.out, heap_ext HB.out.2 HE4.out⟩, Lib.hid (HE.out.trans HE4.out)⟩
            case measure => simp [intOf]; omega
        | some G =>
          obtain ⟨i, hi, hkey, hG⟩ := hN.find_some hf
          have hfd := hN.findN_some (bn := bn) (bt := bn + 1) HT.out wk HB.out.1 HB.out.2 hkey
          obtain ⟨p, va, vp, lv, ps, hs⟩ := hN.segs i hi
          have hsf := fun wy (hE : Ext wr wy) => hs.seg.len_any hE
          rw [hG] at hsf
          have hgl := hs.seg.good
          rw [hG] at hgl
          obtain ⟨gg, hgg⟩ : ∃ z, gvs[i].1 = z := ⟨_, rfl⟩
          rw [hgg] at hfd hsf
          have hKl : G.len ≤ 13107 := hgl.2
          obtain ⟨K, hK⟩ : ∃ z, G.len = z := ⟨_, rfl⟩
          rw [hK] at hsf hKl
          have hoa : Shd.overAt n t y k = (decide (y < 0) || decide ((K : Int) < y)) := by
            unfold Shd.overAt
            rw [hf]
            simp only [hK]
          have HOA := Lib.hid hoa
          have HFD := Lib.hid hfd
          have HSF := Lib.hid hsf
          clear hfd hf hN wk hs hsf hgg hK hkey hG hgl hoa
          go_wp2_with fail
          refine HFD.out.mono ?_
          rintro e w4 ⟨rfl, hE4⟩
          have HE4 := Lib.hid hE4
          clear hE4 hcell
          by_cases hy0 : y < 0
          · have g1 : decide (y < 0) = true := by simp [hy0]
            have HP := Lib.hid (HOV.out (by rw [HOA.out, g1]; rfl))
            go_wp2_with fail
            go_ret
            unfold GivesErr10
            rw [HP.out]
            exact ⟨rfl, LeavesNode.refl ⟨M1, M2, cvs, gvs, HN.out⟩ (HE.out.trans HE4.out)⟩
          · have g1 : decide (y < 0) = false := by simp [hy0]
            go_wp2_with fail
            refine (HSF.out _ HE4.out).mono ?_
            rintro e w5 ⟨rfl, hE5⟩
            have HE5 := Lib.hid (HE4.out.trans hE5)
            clear hE5
            by_cases hyK : (K : Int) < y
            · have g2 : decide ((K : Int) < y) = true := by simp [hyK]
              have HP := Lib.hid (HOV.out (by rw [HOA.out, g2, Bool.or_true]))
              go_wp2_with fail
              go_ret
              unfold GivesErr10
              rw [HP.out]
              exact ⟨rfl, LeavesNode.refl ⟨M1, M2, cvs, gvs, HN.out⟩ (HE.out.trans HE5.out)⟩
            · have g2 : decide ((K : Int) < y) = false := by simp [hyK]
              have HNX2 := Lib.hid (HNX.out (by rw [HOA.out, g1, g2]; rfl))
              go_wp2_with fail
              go_roundw
              case rel => exact ⟨k + 1, by omega, by go_num, HNX2, Lib.hid ⟨heap_ext HB.out.1 HE5.out, heap_ext HB.out.2 HE5.out⟩, Lib.hid (HE.out.trans HE5.out)⟩
              case measure => simp [intOf]; omega
      · obtain rfl : k = un := by omega
        have HALL := Lib.hid (Shd.trim_all HCN.out (by rw [HL.out, ← HUN.out]) (Shd.over_not fun j hj => HO.out j hj (by rw [HUN.out]; exact hj)))
        obtain ⟨z1, hz1⟩ : ∃ z, upto.length = z := ⟨_, rfl⟩
        go_wp2_with fail
        clear hz1
        have HM0 := Lib.hid (show Mid10 w B x M1 M2 o col cvs bn wr col gvs n from ⟨HN.out.ext HE.out, TwS.ext HE.out, Agree.refl _ _, by have := HQ0.out (bn - w.heap.size); rw [show w.heap.size + (bn - w.heap.size) = bn by have := HBN.out; omega] at this; exact this,
          by have := HQ0.out (bn + 1 - w.heap.size); rw [show w.heap.size + (bn + 1 - w.heap.size) = bn + 1 by have := HBN.out; omega] at this; exact this⟩)
        go_loopw [14, 15, 16, 17, 18, 66] (fun _ _ _ _ _ i wr => ∃ j : Nat, j ≤ k ∧ i = .int .i64 j ∧ ∃ col' gvs' nk, Hid (Mid10 w B x M1 M2 o col cvs bn wr col' gvs' nk) ∧ Hid (Shd.trims t (upto.drop j) j nk = Shd.trims t upto 0 n) ∧ Hid (wr.heap[bn]? = some (.cells #[.pointer (some ⟨x, 0, none⟩)] 37 (0, 0)) ∧ wr.heap[bn + 1]? = some (.cells #[.int .i64 t] 3 (0, 0)))) (fun _ _ _ _ _ i _ => k - (intOf i).toNat)
        case atStart => exact ⟨0, by omega, rfl, col, gvs, n, HM0, Lib.hid rfl, HB⟩
        case round =>
          clear HM0 HB HE HO
          obtain ⟨j, hj, rfl, col', gvs', nk, HM, HTR, HB⟩ := hrel
          by_cases hlt : j < k
          · have hN := HM.out.node
            have ho := hN.odd
            have wk : (Lit.int .i64 (j : Int)).wf = true := wfOf (by omega)
            have hju : j < upto.length := by rw [← HUN.out]; exact hlt
            obtain ⟨a9, c9, e9, hc9, hm9, _, hcell⟩ := (HV.out wr (HM.out.tw.mono fun i hi e => by have := e.1; omega)).open
            obtain ⟨vb, vo, hva, hcell⟩ := hcell j hju
            injection e9 with e1 e2 e3
            rw [hva] at e1
            subst e1
            obtain ⟨y, hy⟩ : ∃ y, upto[j] = y := ⟨_, rfl⟩
            rw [hy] at hcell
            have hdr : upto.drop j = y :: upto.drop (j + 1) := by rw [← hy]; exact List.drop_eq_getElem_cons hju
            have htr := HTR.out
            rw [hdr] at htr
            have HTR2 := Lib.hid htr
            clear hc9 hm9 e2 e3 hva hju hy hdr htr
            cases hf : nk.find t (j : Int) with
            | none =>
              have hfd := hN.findN_none (bn := bn) (bt := bn + 1) HT.out wk HB.out.1 HB.out.2 hf
              have HFD := Lib.hid hfd
              have htr := HTR2.out
              rw [Shd.trims_none hf] at htr
              have HTR3 := Lib.hid htr
              clear hfd hf hN wk htr ho
              go_wp2_with fail
              refine HFD.out.mono ?_
              rintro e w4 ⟨rfl, hE4⟩
              have HE4 := Lib.hid hE4
              clear hE4 hcell
              go_wp2_with fail
              go_roundw
              case rel => exact ⟨j + 1, by omega, by go_num, col', gvs', nk, Lib.hid (HM.out.ext HE4.out), HTR3, Lib.hid ⟨heap_ext HB.out.1 HE4.out, heap_ext HB.out.2 HE4.out⟩⟩
              case measure => simp [intOf]; omega
            | some G =>
              obtain ⟨i, hi, hkey, hG⟩ := hN.find_some hf
              have hfd := hN.findN_some (bn := bn) (bt := bn + 1) HT.out wk HB.out.1 HB.out.2 hkey
              obtain ⟨gg, hgg⟩ : ∃ z, gvs'[i].1 = z := ⟨_, rfl⟩
              rw [hgg] at hfd
              have HFD := Lib.hid hfd
              have HF := Lib.hid hf
              have HIX := Lib.hid (show ∃ hi : i < gvs'.length, gvs'[i].2.1 = (t, (j : Int)) ∧ gvs'[i].2.2 = G ∧ gvs'[i].1 = gg from ⟨hi, hkey, hG, hgg⟩)
              clear hfd hf hN wk hgg hkey hG ho
              go_wp2_with fail
              refine HFD.out.mono ?_
              rintro e w4 ⟨rfl, hE4⟩
              have HE4 := Lib.hid hE4
              clear hE4 hcell
              have HM4 := Lib.hid (HM.out.ext HE4.out)
              have HB4 := Lib.hid (And.intro (heap_ext HB.out.1 HE4.out) (heap_ext HB.out.2 HE4.out))
              obtain ⟨p, va, vp, lv, ps, hs⟩ := HM4.out.node.segs i hi
              have htc := trim9S hs.seg y
              obtain ⟨_, hkey, hG, hgg⟩ := HIX.out
              rw [hG, hgg] at htc
              have HTC := Lib.hid htc
              have HS4 := Lib.hid hs
              clear htc hs hkey hG hgg
              go_wp2_with fail
              refine HTC.out.mono ?_
              rintro e w5 ⟨rfl, hL5, ht5, _⟩
              obtain ⟨_, hkey, hG, hgg⟩ := HIX.out
              have hN4 := HM4.out.node
              have ho := hN4.odd
              have hN5 := hN4.turned (G' := G.trim y) i hi HS4.out (by rw [hgg]; exact hL5) ht5
              have hta := hN4.turn_is i hi (fun G => G.trim y)
              rw [hG, hkey] at hta
              rw [hkey, ← hta] at hN5
              obtain ⟨col5, hcol5⟩ : ∃ f, paint col' w4 w5 (2 * i + 4 + o) = f := ⟨_, rfl⟩
              have hA5 : Agree w4 col' col5 := by rw [← hcol5]; exact agree_paint _ _ _ _
              rw [hcol5] at hN5
              have hm5 : Mid10 w B x M1 M2 o col cvs bn w5 col5 _ _ := ⟨hN5, HM4.out.tw.then ht5 fun k hk e => by
                  show Mine o (col k)
                  rw [← HM4.out.ag k hk, e]
                  exact mine_seg ho i, HM4.out.ag.trans (w1 := w4) hA5 HM4.out.tw.size, (hA5 _ (Array.getElem?_eq_some_iff.1 HB4.out.1).1).trans HM4.out.b0, (hA5 _ (Array.getElem?_eq_some_iff.1 HB4.out.2).1).trans HM4.out.b1⟩
              have HM5 := Lib.hid hm5
              have HB5 := Lib.hid (And.intro ((ht5.block bn (Array.getElem?_eq_some_iff.1 HB4.out.1).1 (by rw [HM4.out.b0]; omega)).trans HB4.out.1) ((ht5.block (bn + 1) (Array.getElem?_eq_some_iff.1 HB4.out.2).1 (by rw [HM4.out.b1]; omega)).trans HB4.out.2))
              obtain ⟨er, her⟩ : ∃ z, G.trimErr y = z := ⟨_, rfl⟩
              rw [her]
              by_cases he0 : er = 0
              · subst he0
                have htr := HTR2.out
                rw [Shd.trims_next HF.out her] at htr
                have HTR3 := Lib.hid htr
                clear hL5 ht5 hkey hG hgg hN4 hN5 hta hcol5 hA5 hm5 her htr ho
                go_wp2_with fail
                go_roundw
                case rel => exact ⟨j + 1, by omega, by go_num, col5, _, _, HM5, HTR3, HB5⟩
                case measure => simp [intOf]; omega
              · have he0b : (er == 0) = false := by simpa using he0
                have htr := HTR2.out
                rw [Shd.trims_stop HF.out (by rw [her]; exact he0), her] at htr
                have HFIN := Lib.hid (show n.trim t upto = _ by rw [HALL.out, ← htr])
                clear hL5 ht5 hkey hG hgg hN4 hN5 hta hcol5 hA5 hm5 her htr ho
                go_wp2_with fail
                go_ret
                unfold GivesErr10
                rw [HFIN.out]
                exact ⟨rfl, HM5.out.leaves⟩
          · obtain rfl : j = k := by omega
            have HFIN := Lib.hid (show n.trim t upto = (nk, 0) by
              rw [HALL.out, ← HTR.out, List.drop_of_length_le (by rw [← HUN.out]; exact Nat.le_refl _)]
              rfl)
            go_wp2_with fail
            go_ret
            unfold GivesErr10
            rw [HFIN.out]
            exact ⟨rfl, HM.out.leaves⟩
end Go.Proofs.YtaijgpdlgcgfaaaGreat
