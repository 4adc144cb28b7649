/- A tree with one node more. Conditions: those that each row states. -/
import Derived.Test.YtcicnbbnkeellaaGreatDoorTw
namespace Go.Proofs.YtcicnbbnkeellaaGreatDoor
open Go.RowKit Go.Maps

def addN (T : Tr) (p : List Wd) (nd : Nd) : Tr := fun x => if x = p then some nd else T x
theorem addN_same (T : Tr) (p : List Wd) (nd : Nd) : addN T p nd p = some nd := if_pos rfl
theorem addN_other (T : Tr) (p : List Wd) (nd : Nd) {x : List Wd} (h : x ≠ p) : addN T p nd x = T x := if_neg h
theorem snoc_inj {α : Type} {a b : List α} {x y : α} (h : a ++ [x] = b ++ [y]) : a = b ∧ x = y := by
  have := List.append_inj' h rfl
  exact ⟨this.1, by simpa using this.2⟩
theorem addN_ids (T : Tr) (p : List Wd) (q m : Nat) (hp : T p = none) (x : List Wd) : idsAt (addN T p ⟨q, m, .slice none 0 0, []⟩) x = idsAt T x := by
  by_cases h : x = p
  · subst h
    rw [ids_some (addN_same _ _ _), ids_none hp]
  · unfold idsAt
    rw [addN_other _ _ _ h]

/-- The new node is laid, and its parent's map leads to it. -/
theorem TrW.add {w w' : World} {N : Nat} {T : Tr} (h : TrW w N T) {p : List Wd} {k : Wd} {nd : Nd} (hp : T p = some nd) (hk : T (p ++ [k]) = none) (hw : k.length ≤ 64 ∧ ∀ c ∈ k, c ≠ 46) (hd : p.length < 8) {q m : Nat}
    (hq : w'.heap[q]? = some (.cells #[.map (some m), .slice none 0 0] 58 (0, 0))) (hm : MapF w' m 0 (fun _ => none)) (hqn : w.heap.size ≤ q) (hmn : w.heap.size ≤ m)
    (hpm : MapF w' nd.m (N + 1) (updF (fun x => (T (p ++ [x])).map Nd.q) k (some q))) (hst : ∀ b, XT T b → b ≠ nd.m → w'.heap[b]? = w.heap[b]?) :
    TrW w' (N + 1) (addN T (p ++ [k]) ⟨q, m, .slice none 0 0, []⟩) := by
  have hne : p ≠ p ++ [k] := fun e => by have := congrArg List.length e; simp at this
  have hnone : ∀ x, T (p ++ [k] ++ [x]) = none := fun x => by
    cases e : T (p ++ [k] ++ [x]) with
    | none => rfl
    | some _ => exact absurd hk (h.up _ x (by rw [e]; simp))
  have hch : ∀ (x : List Wd), x ≠ p → x ≠ p ++ [k] → ∀ y, addN T (p ++ [k]) ⟨q, m, .slice none 0 0, []⟩ (x ++ [y]) = T (x ++ [y]) := fun x h1 h2 y =>
    addN_other _ _ _ (fun e => h1 (snoc_inj e).1)
  refine ⟨?_, ?_, ?_, ?_, ?_, ?_, ?_, ?_⟩
  · obtain ⟨r, h1, h2⟩ := h.root
    exact ⟨r, by rw [addN_other _ _ _ (by simp)]; exact h1, h2⟩
  · intro x nx hx
    by_cases h1 : x = p ++ [k]
    · subst h1
      rw [addN_same] at hx
      cases hx
      refine ⟨hq, ⟨rfl, .inl ⟨rfl, rfl⟩⟩, (hm.mono (Nat.zero_le _)).ext (fun y _ => ?_), List.Pairwise.nil, by simp⟩
      rw [addN_other _ _ _ (fun e => by have := congrArg List.length e; simp at this), hnone]
      rfl
    · rw [addN_other _ _ _ h1] at hx
      have ha := h.at' x nx hx
      have hq2 : w'.heap[nx.q]? = w.heap[nx.q]? := hst _ ⟨x, nx, hx, .inl rfl⟩ (h.qm hx hp)
      have hv2 : ∀ b, nx.v.ownBlock = some b → w'.heap[b]? = w.heap[b]? := fun b hb => hst b ⟨x, nx, hx, .inr (.inr hb)⟩ (fun e => h.mv hp hx (e ▸ hb))
      by_cases h2 : x = p
      · subst h2
        rw [hp] at hx
        cases hx
        refine ⟨hq2.trans ha.cells, row_on ha.ids hv2, hpm.ext (fun y _ => ?_), ha.ris, ha.few⟩
        unfold updF
        by_cases hy : y = k
        · subst hy
          rw [if_pos rfl, addN_same]
          rfl
        · rw [if_neg hy, addN_other _ _ _ (fun e => hy (snoc_inj e).2)]
      · refine ⟨hq2.trans ha.cells, row_on ha.ids hv2, ?_, ha.ris, ha.few⟩
        refine ((ha.map.mono (Nat.le_succ _)).on (hst _ ⟨x, nx, hx, .inr (.inl rfl)⟩ (fun e => h2 (h.injm _ _ _ _ hx hp e)))).ext (fun y _ => ?_)
        rw [hch x h2 h1 y]
  · intro x y hx
    by_cases h1 : x ++ [y] = p ++ [k]
    · obtain ⟨rfl, rfl⟩ := snoc_inj h1
      rw [addN_other _ _ _ hne, hp]
      simp
    · rw [addN_other _ _ _ h1] at hx
      have h2 := h.up x y hx
      by_cases h3 : x = p ++ [k]
      · subst h3
        rw [addN_same]
        simp
      · rw [addN_other _ _ _ h3]
        exact h2
  · intro x y hx
    by_cases h1 : x ++ [y] = p ++ [k]
    · obtain ⟨rfl, rfl⟩ := snoc_inj h1
      exact hw
    · rw [addN_other _ _ _ h1] at hx
      exact h.word x y hx
  · intro x hx
    by_cases h1 : x = p ++ [k]
    · subst h1
      simp
      omega
    · rw [addN_other _ _ _ h1] at hx
      exact h.deep x hx
  · intro x y nx ny hx hy he
    by_cases h1 : x = p ++ [k]
    · by_cases h2 : y = p ++ [k]
      · rw [h1, h2]
      · rw [h1, addN_same] at hx
        rw [addN_other _ _ _ h2] at hy
        cases hx
        have := h.lt ⟨y, ny, hy, .inl rfl⟩
        simp only at he
        omega
    · rw [addN_other _ _ _ h1] at hx
      by_cases h2 : y = p ++ [k]
      · rw [h2, addN_same] at hy
        cases hy
        have := h.lt ⟨x, nx, hx, .inl rfl⟩
        simp only at he
        omega
      · rw [addN_other _ _ _ h2] at hy
        exact h.injq x y nx ny hx hy he
  · intro x y nx ny hx hy he
    by_cases h1 : x = p ++ [k]
    · by_cases h2 : y = p ++ [k]
      · rw [h1, h2]
      · rw [h1, addN_same] at hx
        rw [addN_other _ _ _ h2] at hy
        cases hx
        have := h.lt ⟨y, ny, hy, .inr (.inl rfl)⟩
        simp only at he
        omega
    · rw [addN_other _ _ _ h1] at hx
      by_cases h2 : y = p ++ [k]
      · rw [h2, addN_same] at hy
        cases hy
        have := h.lt ⟨x, nx, hx, .inr (.inl rfl)⟩
        simp only at he
        omega
      · rw [addN_other _ _ _ h2] at hy
        exact h.injm x y nx ny hx hy he
  · intro x y nx ny b hx hy hb hb'
    by_cases h1 : x = p ++ [k]
    · rw [h1, addN_same] at hx
      cases hx
      cases hb
    · by_cases h2 : y = p ++ [k]
      · rw [h2, addN_same] at hy
        cases hy
        cases hb'
      · rw [addN_other _ _ _ h1] at hx
        rw [addN_other _ _ _ h2] at hy
        exact h.injv x y nx ny b hx hy hb hb'
theorem XT_add {T : Tr} {p : List Wd} {q m b : Nat} (h : XT (addN T p ⟨q, m, .slice none 0 0, []⟩) b) : XT T b ∨ b = q ∨ b = m := by
  obtain ⟨x, nx, hx, h2⟩ := h
  by_cases h1 : x = p
  · rw [h1, addN_same] at hx
    cases hx
    rcases h2 with h2 | h2 | h2
    · exact .inr (.inl h2)
    · exact .inr (.inr h2)
    · cases h2
  · rw [addN_other _ _ _ h1] at hx
    exact .inl ⟨x, nx, hx, h2⟩
end Go.Proofs.YtcicnbbnkeellaaGreatDoor
