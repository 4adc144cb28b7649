/- Lists of pairs that a law keeps beside its trie. Conditions: those that each row states. -/
import Derived.Test.YtcicnbbnkeellaaGreatDoorLm
namespace Go.Proofs.YtcicnbbnkeellaaGreatDoor
open Go.RowKit Go.Lib
set_option maxRecDepth 100000

theorem pr_at {w : World} {a : Option Addr} {n c : Nat} {l : List Pr} (h : RdPr w (.slice a n c) l) {k : Nat} (hk : k < l.length) :
    ∃ b o, a = some ⟨b, o, none⟩ ∧ w.cell? ⟨b, o + k * 2, none⟩ = some (.string ⟨l[k].1.toArray⟩) ∧ w.cell? ⟨b, o + k * 2 + 1, none⟩ = some (.int .i64 l[k].2) := by
  rcases h with ⟨⟨a', c', _⟩, rfl⟩ | ⟨b, o, c', h1, h2, h3⟩
  · simp at hk
  · injection h1 with h1 _ _
    refine ⟨b, o, h1, ?_, ?_⟩
    · have := h3 (k * 2 + 0) _ (prs_at l k hk 0 (by omega))
      simpa [str] using this
    · have := h3 (k * 2 + 1) _ (prs_at l k hk 1 (by omega))
      rw [← Nat.add_assoc] at this
      exact this
theorem OwnPr.kept {w w' : World} {B : Nat} {v : Value} {l : List Pr} (h : OwnPr w B v l) (hk : Kp (fun b => v.ownBlock = some b) w w') : OwnPr w' B v l := by
  obtain ⟨hl, h⟩ := h
  refine ⟨hl, ?_⟩
  rcases h with h | ⟨g, cap, cur, rfl, hg, hc, h⟩
  · exact .inl h
  · exact .inr ⟨g, cap, cur, rfl, hg, by rw [hk.keep g rfl]; exact hc, h⟩
theorem OwnPr.blk {w : World} {B : Nat} {v : Value} {l : List Pr} (h : OwnPr w B v l) {b : Nat} (hb : v.ownBlock = some b) : B ≤ b ∧ b < w.heap.size := by
  obtain ⟨hl, h⟩ := h
  rcases h with ⟨rfl, _⟩ | ⟨g, cap, cur, rfl, hg, hc, h⟩
  · cases hb
  · injection hb with hb
    subst hb
    exact ⟨hg, lt_of_some hc⟩
/-- Blocks that a call has laid are none of the trie's. -/
theorem St.watch {w0 W w' : World} {K : Nat → Prop} {t N : Nat} {l : List Pr} (h : St w0 (fun _ => False) W t N l) (hb : Below W.heap.size W w') (hK : ∀ b, K b → W.heap.size ≤ b ∧ b < w'.heap.size) : St w0 K w' t N l := by
  obtain ⟨X, h1, h2⟩ := h.tr
  exact ⟨⟨X, h1.below hb, fun b hx => ⟨(h2 b hx).1, fun hk => by have := (hK b hk).1; have := h1.lt hx; omega⟩⟩, nxt h.below hb, fun b hk => (hK b hk).2⟩
theorem addC_why {l : List Pr} {p : List UInt8} {z : Int} (hl : l.length < 64) (hp : ∀ x ∈ l, pat x.1 = true) : (addC l p z = 32 ↔ (p, z) ∈ l) ∧ (addC l p z = 0 → pat p = true ∧ (p, z) ∉ l) := by
  unfold addC
  cases hpp : pat p with
  | false =>
    rw [if_pos rfl]
    refine ⟨⟨fun h => absurd h (by decide), fun h => ?_⟩, fun h => absurd h (by decide)⟩
    have := hp _ h
    rw [hpp] at this
    cases this
  | true =>
    rw [if_neg (by simp)]
    by_cases hm : (p, z) ∈ l
    · rw [if_pos hm]
      exact ⟨⟨fun _ => hm, fun _ => rfl⟩, fun h => absurd h (by decide)⟩
    · rw [if_neg hm, if_neg (by omega)]
      exact ⟨⟨fun h => absurd h (by decide), fun h => absurd h hm⟩, fun _ => ⟨rfl, hm⟩⟩
theorem undo_facts {l : List Pr} {p : List UInt8} {z : Int} (hr : Rising l) (hp : pat p = true) (hm : (p, z) ∉ l) : addC (addP l (p, z)) p z = 32 ∧ addR (addP l (p, z)) p z = addP l (p, z) ∧ (p, z) ∈ addP l (p, z) ∧ (addP l (p, z)).erase (p, z) = l ∧ l.erase (p, z) = l := by
  have h1 : (p, z) ∈ addP l (p, z) := (add_mem _ _ _).2 (.inl rfl)
  have h2 : addC (addP l (p, z)) p z = 32 := by unfold addC; rw [if_neg (by rw [hp]; simp), if_pos h1]
  refine ⟨h2, addR_eq h2 (by decide), h1, ?_, List.erase_of_not_mem hm⟩
  have h3 := add_rising l (p, z) hr hm
  refine rising_ext _ _ (drop_rising _ _ h3) hr (fun y => ?_)
  rw [drop_mem _ _ _ h3, add_mem]
  constructor
  · rintro ⟨e, h | h⟩
    · exact absurd h e
    · exact h
  · intro h
    exact ⟨fun e => hm (e ▸ h), .inr h⟩
end Go.Proofs.YtcicnbbnkeellaaGreatDoor
