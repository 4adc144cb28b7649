/- When a queue can be, one after another: what the document's Good asks. -/
import Derived.Test.YtlbcefocmdnlgaaGreatDoorMq
namespace Go.Proofs.YtlbcefocmdnlgaaGreatDoor
open Go.RowKit Go.Lib
set_option linter.unusedSimpArgs false

structure GI (q : Que) (k : Nat) : Prop where
  ri : Rises (q.items.take k)
  it : ∀ x ∈ q.items.take k, itmB q.seq x = true
theorem GI.zero (q : Que) : GI q 0 := ⟨by simp [Rises], by simp⟩
theorem GI.next {q : Que} {k : Nat} (h : GI q k) (hk : k < q.items.length) (h1 : itmB q.seq q.items[k] = true) (h2 : ∀ h0 : 0 < k, (q.items[k - 1]).seq < (q.items[k]).seq) : GI q (k + 1) := by
  have e : q.items.take (k + 1) = q.items.take k ++ [q.items[k]] := List.take_succ_eq_append_getElem hk
  refine ⟨?_, ?_⟩
  · rw [e]
    unfold Rises
    rw [List.pairwise_append]
    refine ⟨h.ri, by simp, fun y hy z hz => ?_⟩
    rw [List.mem_singleton.1 hz]
    obtain ⟨i, hi, rfl⟩ := List.mem_iff_getElem.1 hy
    have hik : i < k := by rw [List.length_take] at hi; omega
    have h3 := h2 (by omega)
    rw [List.getElem_take]
    rcases Nat.lt_or_ge i (k - 1) with h4 | h4
    · have h5 := List.pairwise_iff_getElem.1 h.ri i (k - 1) hi (by rw [List.length_take]; omega) h4
      rw [List.getElem_take, List.getElem_take] at h5
      omega
    · have : i = k - 1 := by omega
      subst this
      exact h3
  · intro x hx
    rw [e] at hx
    rcases List.mem_append.1 hx with hx | hx
    · exact h.it x hx
    · rw [List.mem_singleton.1 hx]
      exact h1
/-- What ends it. -/
theorem bad_item {q : Que} {k : Nat} (hk : k < q.items.length) (h : itmB q.seq q.items[k] = false ∨ ∃ h0 : 0 < k, (q.items[k]).seq ≤ (q.items[k - 1]).seq) : goodQ q = false := by
  cases hg : goodQ q with
  | false => rfl
  | true =>
    have hp := (goodQ_iff q).1 hg
    rcases h with h | ⟨h0, h⟩
    · rw [hp.it _ (List.getElem_mem hk)] at h
      cases h
    · have h5 := List.pairwise_iff_getElem.1 hp.ri (k - 1) k (by omega) hk (by omega)
      omega
structure GH (q : Que) (k : Nat) : Prop where
  rt : RisesT (q.held.take k)
  ht : ∀ h ∈ q.held.take k, hldB q.seq q.tag h = true
  di : ∀ h ∈ q.held.take k, ∀ x ∈ q.items, x.seq ≠ h.itm.seq
  nd : ((q.held.take k).map (·.itm.seq)).Nodup
theorem GH.zero (q : Que) : GH q 0 := ⟨by simp [RisesT], by simp, by simp, by simp⟩
theorem GH.next {q : Que} {k : Nat} (h : GH q k) (hk : k < q.held.length) (h1 : hldB q.seq q.tag q.held[k] = true) (h2 : ∀ h0 : 0 < k, (q.held[k - 1]).tag < (q.held[k]).tag) (h3 : ∀ x ∈ q.items, x.seq ≠ (q.held[k]).itm.seq) (h4 : ∀ x ∈ q.held.take k, x.itm.seq ≠ (q.held[k]).itm.seq) : GH q (k + 1) := by
  have e : q.held.take (k + 1) = q.held.take k ++ [q.held[k]] := List.take_succ_eq_append_getElem hk
  refine ⟨?_, ?_, ?_, ?_⟩
  · rw [e]
    unfold RisesT
    rw [List.pairwise_append]
    refine ⟨h.rt, by simp, fun y hy z hz => ?_⟩
    rw [List.mem_singleton.1 hz]
    obtain ⟨i, hi, rfl⟩ := List.mem_iff_getElem.1 hy
    have hik : i < k := by rw [List.length_take] at hi; omega
    have h3 := h2 (by omega)
    rw [List.getElem_take]
    rcases Nat.lt_or_ge i (k - 1) with h4 | h4
    · have h5 := List.pairwise_iff_getElem.1 h.rt i (k - 1) hi (by rw [List.length_take]; omega) h4
      rw [List.getElem_take, List.getElem_take] at h5
      omega
    · have : i = k - 1 := by omega
      subst this
      exact h3
  · intro x hx
    rw [e] at hx
    rcases List.mem_append.1 hx with hx | hx
    · exact h.ht x hx
    · rw [List.mem_singleton.1 hx]
      exact h1
  · intro x hx
    rw [e] at hx
    rcases List.mem_append.1 hx with hx | hx
    · exact h.di x hx
    · rw [List.mem_singleton.1 hx]
      exact h3
  · rw [e, List.map_append, List.nodup_append]
    refine ⟨h.nd, by simp, fun a ha b hb => ?_⟩
    obtain ⟨x, hx, rfl⟩ := List.mem_map.1 ha
    rw [List.mem_singleton.1 hb]
    exact h4 x hx
theorem bad_held {q : Que} {k : Nat} (hk : k < q.held.length) (h : hldB q.seq q.tag q.held[k] = false ∨ (∃ h0 : 0 < k, (q.held[k]).tag ≤ (q.held[k - 1]).tag) ∨ (∃ x ∈ q.items, x.seq = (q.held[k]).itm.seq) ∨ ∃ x ∈ q.held.take k, x.itm.seq = (q.held[k]).itm.seq) : goodQ q = false := by
  cases hg : goodQ q with
  | false => rfl
  | true =>
    have hp := (goodQ_iff q).1 hg
    have hn := List.nodup_append.1 hp.nd
    rcases h with h | ⟨h0, h⟩ | ⟨x, hx, e⟩ | ⟨x, hx, e⟩
    · rw [hp.ht _ (List.getElem_mem hk)] at h
      cases h
    · have h5 := List.pairwise_iff_getElem.1 hp.rt (k - 1) k (by omega) hk (by omega)
      omega
    · exact absurd e (hn.2.2 _ (List.mem_map_of_mem hx) _ (List.mem_map_of_mem (List.getElem_mem hk)))
    · obtain ⟨i, hi, rfl⟩ := List.mem_iff_getElem.1 hx
      have hik : i < k := by rw [List.length_take] at hi; omega
      rw [List.getElem_take] at e
      have h5 := List.pairwise_iff_getElem.1 hn.2.1 i k (by simp; omega) (by simpa using hk) hik
      simp only [List.getElem_map] at h5
      exact absurd e h5
theorem good_all {q : Que} (h1 : nameL q.name = true) (h2 : depB q.depth = true) (h3 : numB q.seq = true) (h4 : numB q.tag = true) (h5 : (lenQ q : Int) ≤ q.depth) (hi : GI q q.items.length) (hh : GH q q.held.length) : goodQ q = true := by
  obtain ⟨i1, i2⟩ := hi
  obtain ⟨j1, j2, j3, j4⟩ := hh
  rw [List.take_length] at i1 i2 j1 j2 j3 j4
  refine (goodQ_iff q).2 ⟨h1, h2, h3, h4, h5, i1, i2, j1, j2, ?_⟩
  refine List.nodup_append.2 ⟨?_, j4, fun a ha b hb => ?_⟩
  · rw [List.nodup_iff_pairwise_ne, List.pairwise_map]
    exact i1.imp fun h => by omega
  · obtain ⟨x, hx, rfl⟩ := List.mem_map.1 ha
    obtain ⟨y, hy, rfl⟩ := List.mem_map.1 hb
    exact j3 y hy x hx
end Go.Proofs.YtlbcefocmdnlgaaGreatDoor
