/- A tree of nodes in memory: what lies where, what stays. Conditions: those that each row states. -/
import Derived.Test.YtcicnbbnkeellaaGreatDoorMp
import Derived.Laws.AppendOwn
namespace Go.Proofs.YtcicnbbnkeellaaGreatDoor
open Go.RowKit Go.Maps

def ints (l : List Int) : List Value := l.map (Value.int .i64)
/-- The node nd lies in w, with its map and its numbers. -/
structure NdAt (w : World) (N : Nat) (T : Tr) (p : List Wd) (nd : Nd) : Prop where
  cells : w.heap[nd.q]? = some (.cells #[.map (some nd.m), nd.v] 58 (0, 0))
  ids : w.ownsRow 0 3 1 nd.v nd.ids.length (ints nd.ids)
  map : MapF w nd.m N (fun k => (T (p ++ [k])).map Nd.q)
  ris : RisI nd.ids
  few : nd.ids.length ≤ 64
structure TrW (w : World) (N : Nat) (T : Tr) : Prop where
  root : ∃ nd, T [] = some nd ∧ nd.ids = []
  at' : ∀ p nd, T p = some nd → NdAt w N T p nd
  up : ∀ p k, T (p ++ [k]) ≠ none → T p ≠ none
  word : ∀ p k, T (p ++ [k]) ≠ none → k.length ≤ 64 ∧ ∀ c ∈ k, c ≠ 46
  deep : ∀ p, T p ≠ none → p.length ≤ 8
  injq : ∀ p p' nd nd', T p = some nd → T p' = some nd' → nd.q = nd'.q → p = p'
  injm : ∀ p p' nd nd', T p = some nd → T p' = some nd' → nd.m = nd'.m → p = p'
  injv : ∀ p p' nd nd' b, T p = some nd → T p' = some nd' → nd.v.ownBlock = some b → nd'.v.ownBlock = some b → p = p'
/-- The blocks of a tree. -/
def XT (T : Tr) (b : Nat) : Prop := ∃ p nd, T p = some nd ∧ (b = nd.q ∨ b = nd.m ∨ nd.v.ownBlock = some b)

theorem row_on {w w' : World} {e s n : Nat} {v : Value} {xs : List Value} (h : w.ownsRow 0 e s v n xs) (he : ∀ b, v.ownBlock = some b → w'.heap[b]? = w.heap[b]?) : w'.ownsRow 0 e s v n xs := by
  obtain ⟨h1, h2 | ⟨g, cap, cur, e1, e2, e3, e4⟩⟩ := h
  · exact ⟨h1, .inl h2⟩
  · exact ⟨h1, .inr ⟨g, cap, cur, e1, e2, (he g (by rw [e1]; rfl)).trans e3, e4⟩⟩
theorem row_lt {w : World} {e s n b : Nat} {v : Value} {xs : List Value} (h : w.ownsRow 0 e s v n xs) (hb : v.ownBlock = some b) : ∃ cur, w.heap[b]? = some (.cells cur e (0, 0)) := by
  obtain ⟨h1, ⟨rfl, _⟩ | ⟨g, cap, cur, e1, e2, e3, e4⟩⟩ := h
  · cases hb
  · rw [e1] at hb
    cases hb
    exact ⟨cur, e3⟩
theorem lt_of_some {w : World} {b : Nat} {o : Obj} (h : w.heap[b]? = some o) : b < w.heap.size := (Array.getElem?_eq_some_iff.1 h).1
theorem TrW.lt {w : World} {N : Nat} {T : Tr} (h : TrW w N T) {b : Nat} (hb : XT T b) : b < w.heap.size := by
  obtain ⟨p, nd, hp, rfl | rfl | hv⟩ := hb
  · exact lt_of_some (h.at' p nd hp).cells
  · exact (h.at' p nd hp).map.lt
  · obtain ⟨cur, hc⟩ := row_lt (h.at' p nd hp).ids hv
    exact lt_of_some hc
theorem NdAt.on {w w' : World} {N : Nat} {T : Tr} {p : List Wd} {nd : Nd} (h : NdAt w N T p nd) (he : ∀ b, (b = nd.q ∨ b = nd.m ∨ nd.v.ownBlock = some b) → w'.heap[b]? = w.heap[b]?) : NdAt w' N T p nd :=
  ⟨(he _ (.inl rfl)).trans h.cells, row_on h.ids (fun b hb => he b (.inr (.inr hb))), h.map.on (he _ (.inr (.inl rfl))), h.ris, h.few⟩
theorem TrW.on {w w' : World} {N : Nat} {T : Tr} (h : TrW w N T) (he : ∀ b, XT T b → w'.heap[b]? = w.heap[b]?) : TrW w' N T :=
  ⟨h.root, fun p nd hp => (h.at' p nd hp).on (fun b hb => he b ⟨p, nd, hp, hb⟩), h.up, h.word, h.deep, h.injq, h.injm, h.injv⟩
theorem TrW.below {w w' : World} {N : Nat} {T : Tr} (h : TrW w N T) (hb : Below w.heap.size w w') : TrW w' N T := h.on (fun b hx => hb.block b (h.lt hx))
theorem TrW.mono {w : World} {N N' : Nat} {T : Tr} (h : TrW w N T) (hn : N ≤ N') : TrW w N' T :=
  ⟨h.root, fun p nd hp => let a := h.at' p nd hp; ⟨a.cells, a.ids, a.map.mono hn, a.ris, a.few⟩, h.up, h.word, h.deep, h.injq, h.injm, h.injv⟩
/-- A node's block is no map's and no row's. -/
theorem TrW.qm {w : World} {N : Nat} {T : Tr} (h : TrW w N T) {p p' : List Wd} {nd nd' : Nd} (h1 : T p = some nd) (h2 : T p' = some nd') : nd.q ≠ nd'.m := fun e => by
  obtain ⟨es, c, hm⟩ := (h.at' p' nd' h2).map.isMap
  have := (h.at' p nd h1).cells
  rw [e, hm] at this
  cases this
theorem TrW.qv {w : World} {N : Nat} {T : Tr} (h : TrW w N T) {p p' : List Wd} {nd nd' : Nd} (h1 : T p = some nd) (h2 : T p' = some nd') : nd'.v.ownBlock ≠ some nd.q := fun e => by
  obtain ⟨cur, hc⟩ := row_lt (h.at' p' nd' h2).ids e
  have := (h.at' p nd h1).cells
  rw [hc] at this
  injection this with this
  injection this with _ this
  cases this
theorem TrW.mv {w : World} {N : Nat} {T : Tr} (h : TrW w N T) {p p' : List Wd} {nd nd' : Nd} (h1 : T p = some nd) (h2 : T p' = some nd') : nd'.v.ownBlock ≠ some nd.m := fun e => by
  obtain ⟨cur, hc⟩ := row_lt (h.at' p' nd' h2).ids e
  obtain ⟨es, c, hm⟩ := (h.at' p nd h1).map.isMap
  rw [hc] at hm
  cases hm
theorem TrW.up' {w : World} {N : Nat} {T : Tr} (h : TrW w N T) : ∀ (s p : List Wd), T (p ++ s) ≠ none → T p ≠ none := by
  intro s
  induction s with
  | nil => intro p hp; simpa using hp
  | cons k s ih =>
    intro p hp
    exact h.up p k (ih (p ++ [k]) (by simpa using hp))
theorem TrW.words {w : World} {N : Nat} {T : Tr} (h : TrW w N T) : ∀ (p : List Wd), T p ≠ none → ∀ k ∈ p, k.length ≤ 64 ∧ ∀ c ∈ k, c ≠ 46 := by
  intro p hp k hk
  obtain ⟨a, b, rfl⟩ := List.append_of_mem hk
  exact h.word a k (h.up' b (a ++ [k]) (by simpa using hp))
theorem TrW.ids_ne {w : World} {N : Nat} {T : Tr} (h : TrW w N T) (p : List Wd) (hp : idsAt T p ≠ []) : T p ≠ none ∧ p ≠ [] := by
  constructor
  · exact fun e => hp (ids_none e)
  · intro e
    obtain ⟨nd, h1, h2⟩ := h.root
    subst e
    exact hp (by rw [ids_some h1, h2])

/-- The frame of a call: nothing is changed but in X; what is behind is of X or new. -/
structure Fr (X X' : Nat → Prop) (w w' : World) : Prop where
  os : w'.os = w.os
  tape : w'.tape = w.tape
  output : w'.output = w.output
  size : w.heap.size ≤ w'.heap.size
  keep : ∀ b, b < w.heap.size → ¬ X b → w'.heap[b]? = w.heap[b]?
  new : ∀ b, X' b → X b ∨ w.heap.size ≤ b
theorem Fr.refl (X : Nat → Prop) (w : World) : Fr X X w w := ⟨rfl, rfl, rfl, Nat.le_refl _, fun _ _ _ => rfl, fun _ h => .inl h⟩
theorem Fr.of_below {X : Nat → Prop} {w w' : World} (h : Below w.heap.size w w') : Fr X X w w' := ⟨h.os, h.tape, h.output, h.size, fun b hb _ => h.block b hb, fun _ h => .inl h⟩
theorem Fr.trans {X X' X'' : Nat → Prop} {a b c : World} (h : Fr X X' a b) (k : Fr X' X'' b c) : Fr X X'' a c :=
  ⟨k.os.trans h.os, k.tape.trans h.tape, k.output.trans h.output, Nat.le_trans h.size k.size, fun i hi hx => (k.keep i (Nat.lt_of_lt_of_le hi h.size) (fun e => by
      rcases h.new i e with h1 | h1
      · exact hx h1
      · omega)).trans (h.keep i hi hx), fun i hx => by
    rcases k.new i hx with h1 | h1
    · exact h.new i h1
    · exact .inr (Nat.le_trans h.size h1)⟩
theorem Fr.below {X X' : Nat → Prop} {w w' : World} {B : Nat} (h : Fr X X' w w') (hB : ∀ b, X b → B ≤ b) (hw : B ≤ w.heap.size) : Below B w w' :=
  ⟨h.os, h.tape, h.output, h.size, fun k hk => h.keep k (by omega) (fun hx => by have := hB k hx; omega)⟩
theorem Fr.above {X X' : Nat → Prop} {w w' : World} {B : Nat} (h : Fr X X' w w') (hB : ∀ b, X b → B ≤ b) (hw : B ≤ w.heap.size) : ∀ b, X' b → B ≤ b := fun b hb => by
  rcases h.new b hb with h1 | h1
  · exact hB b h1
  · omega
theorem Fr.weaken {X X' Y : Nat → Prop} {w w' : World} (h : Fr X X' w w') (hY : ∀ b, X b → Y b) : Fr Y (fun b => Y b ∨ X' b) w w' :=
  ⟨h.os, h.tape, h.output, h.size, fun b hb hn => h.keep b hb (fun hx => hn (hY b hx)), fun b hb => by
    rcases hb with h1 | h1
    · exact .inl h1
    · rcases h.new b h1 with h2 | h2
      · exact .inl (hY b h2)
      · exact .inr h2⟩
end Go.Proofs.YtcicnbbnkeellaaGreatDoor
