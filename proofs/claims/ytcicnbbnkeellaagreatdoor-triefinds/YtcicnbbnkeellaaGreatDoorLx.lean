/- Two tries that a law makes: what the calls of one do to both. Conditions: Vars, what the library's tables hold when the call begins, and those that each row states. -/
import Derived.Test.YtcicnbbnkeellaaGreatDoorLm
namespace Go.Proofs.YtcicnbbnkeellaaGreatDoor
open Go.RowKit Go.Lib
set_option maxRecDepth 100000

structure St2 (w0 W : World) (ta Na : Nat) (la : List Pr) (tb Nb : Nat) (lb : List Pr) : Prop where
  tr : ∃ X Y, PT W X ta Na la ∧ PT W Y tb Nb lb ∧ (∀ b, X b → w0.heap.size ≤ b) ∧ (∀ b, Y b → w0.heap.size ≤ b) ∧ ∀ b, X b → ¬ Y b
  below : Below w0.heap.size w0 W
theorem St2.swap {w0 W : World} {ta Na tb Nb : Nat} {la lb : List Pr} (h : St2 w0 W ta Na la tb Nb lb) : St2 w0 W tb Nb lb ta Na la := by
  obtain ⟨X, Y, h1, h2, h3, h4, h5⟩ := h.tr
  exact ⟨⟨Y, X, h2, h1, h4, h3, fun b hy hx => h5 b hx hy⟩, h.below⟩
theorem St2.on {w0 W w' : World} {ta Na tb Nb : Nat} {la lb : List Pr} (h : St2 w0 W ta Na la tb Nb lb) (hb : Below W.heap.size W w') : St2 w0 w' ta Na la tb Nb lb := by
  obtain ⟨X, Y, h1, h2, h3, h4, h5⟩ := h.tr
  exact ⟨⟨X, Y, h1.below hb, h2.below hb, h3, h4, h5⟩, nxt h.below hb⟩
theorem St2.facts {w0 W : World} {ta Na tb Nb : Nat} {la lb : List Pr} (h : St2 w0 W ta Na la tb Nb lb) : (∀ x ∈ la, pat x.1 = true) ∧ Rising la ∧ la.length ≤ 64 := by
  obtain ⟨X, Y, h1, h2, h3, h4, h5⟩ := h.tr
  exact h1.facts
theorem St2.one {w0 W : World} {ta Na tb Nb : Nat} {la lb : List Pr} (h : St2 w0 W ta Na la tb Nb lb) : St w0 (fun _ => False) W ta Na la := by
  obtain ⟨X, Y, h1, h2, h3, h4, h5⟩ := h.tr
  exact ⟨⟨X, h1, fun b hx => ⟨h3 b hx, fun h => h⟩⟩, h.below, fun b h => h.elim⟩
theorem St2.of_fr {w0 W w' : World} {ta Na' tb Nb : Nat} {la' lb : List Pr} {X X' Y : Nat → Prop} (h2 : PT W Y tb Nb lb) (h3 : ∀ b, X b → w0.heap.size ≤ b) (h4 : ∀ b, Y b → w0.heap.size ≤ b) (h5 : ∀ b, X b → ¬ Y b) (hb : Below w0.heap.size w0 W)
    (h6 : PT w' X' ta Na' la') (h7 : Fr X X' W w') : St2 w0 w' ta Na' la' tb Nb lb := by
  refine ⟨⟨X', Y, h6, h2.apart h7 (fun b hy hx => h5 b hx hy), fun b hx => ?_, h4, fun b hx hy => ?_⟩, hb.trans (h7.below h3 hb.size)⟩
  · rcases h7.new b hx with h | h
    · exact h3 b h
    · exact Nat.le_trans hb.size h
  · rcases h7.new b hx with h | h
    · exact h5 b h hy
    · have := h2.lt hy
      omega
theorem St.new2 {w0 W : World} {ta Na : Nat} {la : List Pr} (h : St w0 (fun _ => False) W ta Na la) : Calls Tryz.prog 9 #[] W fun e w' => e = .returned (.pointer (some ⟨W.heap.size + 2, 0, none⟩)) ∧ St2 w0 w' ta Na la (W.heap.size + 2) 0 [] := by
  obtain ⟨Y, h1, h2⟩ := h.tr
  refine (new_any W).mono ?_
  rintro e w' ⟨rfl, X, h3, h4⟩
  exact ⟨rfl, (St2.of_fr (X := fun _ => False) h1 (fun b h => h.elim) (fun b hy => (h2 b hy).1) (fun b h => h.elim) h.below h3 h4).swap⟩
theorem St2.add {w0 W : World} {ta Na tb Nb : Nat} {la lb : List Pr} (h : St2 w0 W ta Na la tb Nb lb) (hv : To.Vars w0) (p : List UInt8) (hpl : p.length ≤ 9223372036854775807) (z : Int) (hN : Na ≤ 1000000) :
    Calls Tryz.prog 10 #[.pointer (some ⟨ta, 0, none⟩), str p, .int .i64 z] W fun e w' => e = .returned (.int .i64 (addC la p z)) ∧ St2 w0 w' ta (Na + 8) (addR la p z) tb Nb lb := by
  obtain ⟨X, Y, h1, h2, h3, h4, h5⟩ := h.tr
  refine (add_any W X ta Na la h1 (hv.below h.below) p hpl z hN).mono ?_
  rintro e w' ⟨rfl, X', h6, h7⟩
  exact ⟨rfl, St2.of_fr h2 h3 h4 h5 h.below h6 h7⟩
theorem St2.drop {w0 W : World} {ta Na tb Nb : Nat} {la lb : List Pr} (h : St2 w0 W ta Na la tb Nb lb) (p : List UInt8) (hpl : p.length ≤ 9223372036854775807) (z : Int) :
    Calls Tryz.prog 12 #[.pointer (some ⟨ta, 0, none⟩), str p, .int .i64 z] W fun e w' => e = .returned (.int .i64 (if (p, z) ∈ la then 0 else 33)) ∧ St2 w0 w' ta Na (la.erase (p, z)) tb Nb lb := by
  obtain ⟨X, Y, h1, h2, h3, h4, h5⟩ := h.tr
  refine (drop_any W X ta Na la h1 p hpl z).mono ?_
  rintro e w' ⟨rfl, X', h6, h7⟩
  exact ⟨rfl, St2.of_fr h2 h3 h4 h5 h.below h6 h7⟩

def rem5 (i : Nat) : Int := ((i % 5 : Nat) : Int)
/-- What the pairs from k on are. -/
def Back (ps : List (List UInt8)) (n k : Nat) (l : List Pr) : Prop := ∀ x, x ∈ l ↔ ∃ i, k ≤ i ∧ i < n ∧ x = (ps.getD i [], rem5 i) ∧ pat (ps.getD i []) = true
theorem Back.few {ps : List (List UInt8)} {n k : Nat} {l : List Pr} (h : Back ps n k l) (hr : Rising l) : l.length ≤ n := by
  have := nodup_len l ((List.range n).map (fun i => (ps.getD i [], rem5 i))) (rising_nodup l hr) (fun x hx => by
    obtain ⟨i, _, h2, rfl, _⟩ := (h x).1 hx
    exact List.mem_map.2 ⟨i, List.mem_range.2 h2, rfl⟩)
  rw [List.length_map, List.length_range] at this
  exact this
theorem Back.step {ps : List (List UInt8)} {n k : Nat} {l : List Pr} (h : Back ps n (k + 1) l) (hk : k < n) (hl : l.length ≤ 40) (hr : Rising (addR (addR l (ps.getD k []) 99) (ps.getD k []) (rem5 k))) : Back ps n k ((addR (addR l (ps.getD k []) 99) (ps.getD k []) (rem5 k)).erase (ps.getD k [], 99)) := by
  intro x
  have h9 : ∀ i, rem5 i ≠ 99 := fun i => by unfold rem5; omega
  have hl2 := addR_len l (ps.getD k []) 99
  rw [drop_mem _ _ _ hr, addR_mem _ _ _ (by omega), addR_mem _ _ _ (by omega), h x]
  constructor
  · rintro ⟨hne, (⟨i, h1, h2, h3⟩ | ⟨h1, h2⟩) | ⟨h1, h2⟩⟩
    · exact ⟨i, by omega, h2, h3⟩
    · exact absurd h1 hne
    · exact ⟨k, Nat.le_refl _, hk, h1, h2⟩
  · rintro ⟨i, h1, h2, h3, h4⟩
    refine ⟨fun e => ?_, ?_⟩
    · rw [h3] at e
      exact h9 i (congrArg Prod.snd e)
    · by_cases e : i = k
      · subst e
        exact .inr ⟨h3, h4⟩
      · exact .inl (.inl ⟨i, by omega, h2, h3, h4⟩)
theorem Back.all {ps : List (List UInt8)} {n : Nat} {l : List Pr} (h : Back ps n 0 l) (hr : Rising l) (hn : n ≤ 40) (ha : Rising (adds ps rem5 n)) : l = adds ps rem5 n := by
  refine rising_ext _ _ hr ha (fun y => ?_)
  rw [h y, adds_mem ps rem5 n (by omega)]
  constructor
  · rintro ⟨i, _, h2⟩; exact ⟨i, h2⟩
  · rintro ⟨i, h2⟩; exact ⟨i, Nat.zero_le _, h2⟩
end Go.Proofs.YtcicnbbnkeellaaGreatDoor
