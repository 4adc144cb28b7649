/- A tree with nodes less that lead to no number. Conditions: those that each row states. -/
import Derived.Test.YtcicnbbnkeellaaGreatDoorGw
import Derived.Test.YtcicnbbnkeellaaGreatDoorNe
namespace Go.Proofs.YtcicnbbnkeellaaGreatDoor
open Go.RowKit Go.Maps

/-- T' is T without nodes behind p that lead to no number. -/
structure Pru (p : List Wd) (T T' : Tr) : Prop where
  sub : ∀ x, T' x = T x ∨ T' x = none
  keep : ∀ x nd, T x = some nd → nd.ids ≠ [] → T' x = some nd
  out : ∀ x, (¬ ∃ k s, x = p ++ k :: s) → T' x = T x
theorem Pru.refl (p : List Wd) (T : Tr) : Pru p T T := ⟨fun _ => .inl rfl, fun _ _ h _ => h, fun _ _ => rfl⟩
theorem Pru.trans {p : List Wd} {T T' T'' : Tr} (h : Pru p T T') (k : Pru p T' T'') : Pru p T T'' :=
  ⟨fun x => by
    rcases k.sub x with e | e
    · rw [e]; exact h.sub x
    · exact .inr e, fun x nd e hn => k.keep x nd (h.keep x nd e hn) hn, fun x hx => (k.out x hx).trans (h.out x hx)⟩
theorem Pru.deep {p : List Wd} {k : Wd} {T T' : Tr} (h : Pru (p ++ [k]) T T') : Pru p T T' :=
  ⟨h.sub, h.keep, fun x hx => h.out x (fun ⟨j, s, e⟩ => hx ⟨k, j :: s, by rw [e]; simp⟩)⟩
theorem Pru.ids {p : List Wd} {T T' : Tr} (h : Pru p T T') (x : List Wd) : idsAt T' x = idsAt T x := by
  rcases h.sub x with e | e
  · unfold idsAt; rw [e]
  · rw [ids_none e]
    cases ht : T x with
    | none => rw [ids_none ht]
    | some nd =>
      by_cases hn : nd.ids = []
      · rw [ids_some ht, hn]
      · rw [h.keep x nd ht hn] at e
        cases e
theorem Pru.some {p : List Wd} {T T' : Tr} (h : Pru p T T') {x : List Wd} {nd : Nd} (e : T' x = some nd) : T x = some nd := by
  rcases h.sub x with e1 | e1
  · rw [← e1]; exact e
  · rw [e1] at e; cases e
theorem Pru.X {p : List Wd} {T T' : Tr} (h : Pru p T T') {b : Nat} (hb : XT T' b) : XT T b := by
  obtain ⟨x, nd, e, hb⟩ := hb
  exact ⟨x, nd, h.some e, hb⟩

def remN (T : Tr) (p : List Wd) : Tr := fun x => if x = p then none else T x
theorem remN_same (T : Tr) (p : List Wd) : remN T p p = none := if_pos rfl
theorem remN_other (T : Tr) (p : List Wd) {x : List Wd} (h : x ≠ p) : remN T p x = T x := if_neg h
theorem remN_pru {T : Tr} {p : List Wd} {k : Wd} {c : Nd} (hc : T (p ++ [k]) = some c) (hi : c.ids = []) : Pru p T (remN T (p ++ [k])) := by
  refine ⟨fun x => ?_, fun x nd e hn => ?_, fun x hx => ?_⟩
  · by_cases h : x = p ++ [k]
    · right; rw [h, remN_same]
    · left; exact remN_other _ _ h
  · rw [remN_other _ _ (fun h => ?_)]
    · exact e
    · rw [h, hc] at e
      cases e
      exact hn hi
  · exact remN_other _ _ (fun h => hx ⟨k, [], h⟩)
/-- A child without children goes. -/
theorem TrW.rem {w w' : World} {N : Nat} {T : Tr} (h : TrW w N T) {p : List Wd} {k : Wd} {nd : Nd} (hp : T p = some nd) (hn : ∀ y, T (p ++ [k] ++ [y]) = none)
    (hpm : MapF w' nd.m N (updF (fun x => (T (p ++ [x])).map Nd.q) k none)) (hst : ∀ b, XT T b → b ≠ nd.m → w'.heap[b]? = w.heap[b]?) : TrW w' N (remN T (p ++ [k])) := by
  have hs : ∀ {x nx}, remN T (p ++ [k]) x = some nx → x ≠ p ++ [k] ∧ T x = some nx := fun {x nx} e => by
    by_cases h1 : x = p ++ [k]
    · rw [h1, remN_same] at e; cases e
    · rw [remN_other _ _ h1] at e; exact ⟨h1, e⟩
  have hs' : ∀ {x}, remN T (p ++ [k]) x ≠ none → x ≠ p ++ [k] ∧ T x ≠ none := fun {x} e => by
    by_cases h1 : x = p ++ [k]
    · rw [h1, remN_same] at e; exact absurd rfl e
    · rw [remN_other _ _ h1] at e; exact ⟨h1, e⟩
  refine ⟨?_, ?_, ?_, ?_, ?_, ?_, ?_, ?_⟩
  · obtain ⟨r, h1, h2⟩ := h.root
    exact ⟨r, by rw [remN_other _ _ (by simp)]; exact h1, h2⟩
  · intro x nx hx0
    obtain ⟨h1, hx⟩ := hs hx0
    clear hx0
    have ha := h.at' x nx hx
    have hq2 : w'.heap[nx.q]? = w.heap[nx.q]? := hst _ ⟨x, nx, hx, .inl rfl⟩ (h.qm hx hp)
    have hv2 : ∀ b, nx.v.ownBlock = some b → w'.heap[b]? = w.heap[b]? := fun b hb => hst b ⟨x, nx, hx, .inr (.inr hb)⟩ (fun e => h.mv hp hx (e ▸ hb))
    by_cases h2 : x = p
    · subst h2
      rw [hp] at hx
      cases hx
      refine ⟨hq2.trans ha.cells, row_on ha.ids hv2, hpm.ext (fun y _ => ?_), ha.ris, ha.few⟩
      unfold updF
      by_cases hy : y = k
      · subst hy
        rw [if_pos rfl, remN_same]
        rfl
      · rw [if_neg hy, remN_other _ _ (fun e => hy (snoc_inj e).2)]
    · refine ⟨hq2.trans ha.cells, row_on ha.ids hv2, ?_, ha.ris, ha.few⟩
      refine (ha.map.on (hst _ ⟨x, nx, hx, .inr (.inl rfl)⟩ (fun e => h2 (h.injm _ _ _ _ hx hp e)))).ext (fun y _ => ?_)
      rw [remN_other _ _ (fun e => h2 (snoc_inj e).1)]
  · intro x y hx
    obtain ⟨h1, hx⟩ := hs' hx
    have h2 := h.up x y hx
    by_cases h3 : x = p ++ [k]
    · subst h3
      exact absurd (hn y) hx
    · rw [remN_other _ _ h3]
      exact h2
  · intro x y hx
    exact h.word x y (hs' hx).2
  · intro x hx
    exact h.deep x (hs' hx).2
  · intro x y nx ny hx hy he
    exact h.injq x y nx ny (hs hx).2 (hs hy).2 he
  · intro x y nx ny hx hy he
    exact h.injm x y nx ny (hs hx).2 (hs hy).2 he
  · intro x y nx ny b hx hy hb hb'
    exact h.injv x y nx ny b (hs hx).2 (hs hy).2 hb hb'
/-- The frame of a pruning at p: the maps behind p alone. -/
structure FrP (p : List Wd) (T : Tr) (w w' : World) : Prop where
  os : w'.os = w.os
  tape : w'.tape = w.tape
  output : w'.output = w.output
  size : w.heap.size ≤ w'.heap.size
  keep : ∀ b, b < w.heap.size → (∀ s ns, T (p ++ s) = some ns → b ≠ ns.m) → w'.heap[b]? = w.heap[b]?
theorem FrP.fr {p : List Wd} {T T' : Tr} {w w' : World} (h : FrP p T w w') (hp : Pru p T T') : Fr (XT T) (XT T') w w' :=
  ⟨h.os, h.tape, h.output, h.size, fun b hb hn => h.keep b hb (fun _ ns e he => hn ⟨_, ns, e, .inr (.inl he)⟩), fun _ hb => .inl (hp.X hb)⟩
/-- What a pruning answers. -/
def PruW (N : Nat) (p : List Wd) (T : Tr) (w : World) (w' : World) : Prop := ∃ T', TrW w' N T' ∧ Pru p T T' ∧ FrP p T w w'
end Go.Proofs.YtcicnbbnkeellaaGreatDoor
