/- Appending parts that can be read to parts of the call's own, of such lengths as fit into memory; and reading them there. -/
import Derived.Test.YtbdfhmffdnlbfabDoorParts
import Derived.Test.YtbdfhmffdnlbfabDoorApp
namespace Go.Proofs.YtbdfhmffdnlbfabDoor
open Go.RowKit Go.Lib

theorem info32 : (Tryd.prog.info? 32).map (fun i => (i.zero, i.size, i.bytes)) = some (some (.agg #[.bool false, .int .i64 0, .string ⟨#[]⟩]), 3, 32) := by kernel_rfl

/-- The cells of parts. -/
def partCells (ps : List Pm) : List Value := ps.flatMap fun p => [.bool p.1, .int .i64 p.2.1, .string p.2.2]
theorem partCells_length (ps : List Pm) : (partCells ps).length = ps.length * 3 := by
  induction ps with
  | nil => rfl
  | cons p ps ih => simp only [partCells, List.flatMap_cons, List.length_append, List.length_cons, List.length_nil] at ih ⊢; omega
theorem partCells_append (a b : List Pm) : partCells (a ++ b) = partCells a ++ partCells b := by simp [partCells]
theorem partCells_at (ps : List Pm) : ∀ i, i < ps.length → (partCells ps)[i * 3]? = some (.bool (ps.getD i pmZ).1) ∧ (partCells ps)[i * 3 + 1]? = some (.int .i64 (ps.getD i pmZ).2.1) ∧ (partCells ps)[i * 3 + 2]? = some (.string (ps.getD i pmZ).2.2) := by
  induction ps with
  | nil => intro i hi; simp at hi
  | cons p ps ih =>
    intro i hi
    cases i with
    | zero => exact ⟨rfl, rfl, rfl⟩
    | succ i =>
      have := ih i (by simpa using hi)
      have e : partCells (p :: ps) = .bool p.1 :: .int .i64 p.2.1 :: .string p.2.2 :: partCells ps := rfl
      have e0 : (i + 1) * 3 = i * 3 + 1 + 1 + 1 := by omega
      rw [e, e0]
      simpa using this

/-- A slice of parts in the call's own memory. -/
def OwnP (w : World) (B : Nat) (v : Value) (ps : List Pm) : Prop := w.ownsRow B 32 3 v ps.length (partCells ps)
theorem ownP_empty (w : World) (B : Nat) (hB : B ≤ w.heap.size) : OwnP (w.alloc (.cells #[] 32)) B (.slice (some ⟨w.heap.size, 0, none⟩) 0 0) [] :=
  World.ownsRow_made w #[] 0 hB (Nat.zero_le _) rfl
theorem OwnP.rd {w : World} {B : Nat} {v : Value} {ps : List Pm} (h : OwnP w B v ps) (hr : ∀ p ∈ ps, -9223372036854775808 ≤ p.2.1 ∧ p.2.1 ≤ 9223372036854775807) : RdP w v ps := by
  obtain ⟨hl, ⟨rfl, h0⟩ | ⟨g, cap, cur, rfl, hb, hg, hc, hm, hs, ht⟩⟩ := h
  · exact ⟨hr, .inl ⟨⟨_, _, rfl⟩, List.length_eq_zero_iff.1 h0⟩⟩
  · have key : ∀ j u, (partCells ps)[j]? = some u → w.cell? ⟨g, 0 + j, none⟩ = some u := fun j u hj => by
      have hjl : j < ps.length * 3 := by
        have := (List.getElem?_eq_some_iff.1 hj).1
        rw [partCells_length] at this
        exact this
      rw [← ht, List.getElem?_take_of_lt hjl, Array.getElem?_toList] at hj
      simp [World.cell?, hg, hj]
    refine ⟨hr, .inr ⟨g, 0, cap, rfl, fun i hi => ?_⟩⟩
    obtain ⟨h0, h1, h2⟩ := partCells_at ps i hi
    exact ⟨key _ _ h0, by have := key _ _ h1; rwa [← Nat.add_assoc] at this, by have := key _ _ h2; rwa [← Nat.add_assoc] at this⟩

theorem appP {ops : Array Oper} {rest : List Oper} {o : Oper} {a : Act} {Q : Exit → Act → World → Prop} (hgd : o.guard = none) (s x : Operand)
    (ho : o.op = .call { callee := .builtin .append, args := #[s, x], argTypes := #[23, 23] }) (B : Nat) (v vx : Value) (l lx : List Pm) (w : World)
    (hs : a.eval s = v) (hown : OwnP w B v l) (hx : a.eval x = vx) (hn : ∀ c, vx = .slice none 0 c → c = 0) (hr : RdP w vx lx) (hl : l.length + lx.length ≤ 1000000) (hB : B ≤ w.heap.size)
    (h : ∀ v' w', OwnP w' B v' (l ++ lx) → Below B w w' → wpList Tryd.prog ops Q rest (a.put o.dst v') w') :
    wpList Tryd.prog ops Q (o :: rest) a w := by
  obtain ⟨i0, hi, hz0, hz1, hz2⟩ := info_parts info32
  obtain ⟨_, ⟨⟨ad, c, rfl⟩, rfl⟩ | ⟨b, of, c, rfl, hc⟩⟩ := hr
  · cases ad with
    | none =>
      have hc0 := hn c rfl
      subst hc0
      refine wpList_append_own_none hgd s x 23 ho B 32 i0 3 Tryd.underlying23 hi v l.length (partCells l) hs hown hx ?_
      exact h v w (by simpa using hown) (Below.refl _ _)
    | some ad =>
      refine wpList_append_own _ hgd s x 23 ho B 32 i0 _ 3 32 Tryd.underlying23 hi hz0 hz1 hz2 rfl (by decide) v l.length (partCells l) hs hown ad 0 c [] hx rfl (fun j u hj => by simp at hj) (fun u hu => by cases hu) (by unfold maxLen; omega) (by omega) hB ?_
      intro v' w' h1 h2 _
      refine h v' w' ?_ ((Below.refl B w).grown h2 hB (fun k hk => (World.ownsRow.lt hown k hk).1))
      simpa [OwnP] using h1
  · refine wpList_append_own _ hgd s x 23 ho B 32 i0 _ 3 32 Tryd.underlying23 hi hz0 hz1 hz2 rfl (by decide) v l.length (partCells l) hs hown ⟨b, of, none⟩ lx.length c (partCells lx) hx (partCells_length lx) ?_ ?_ (by unfold maxLen; omega) (by omega) hB ?_
    · intro j u hj
      have hjl : j < lx.length * 3 := by
        have := (List.getElem?_eq_some_iff.1 hj).1
        rw [partCells_length] at this
        exact this
      obtain ⟨h0, h1, h2⟩ := hc (j / 3) (by omega)
      obtain ⟨p0, p1, p2⟩ := partCells_at lx (j / 3) (by omega)
      rw [Addr.add_lit]
      have hm : j % 3 = 0 ∨ j % 3 = 1 ∨ j % 3 = 2 := by omega
      rcases hm with hm | hm | hm
      · have e : j = j / 3 * 3 := by omega
        rw [e] at hj ⊢
        rw [p0] at hj
        rw [h0, hj]
      · have e : j = j / 3 * 3 + 1 := by omega
        rw [e] at hj ⊢
        rw [p1] at hj
        rw [← Nat.add_assoc, h1, hj]
      · have e : j = j / 3 * 3 + 2 := by omega
        rw [e] at hj ⊢
        rw [p2] at hj
        rw [← Nat.add_assoc, h2, hj]
    · intro u hu
      obtain ⟨p, _, hp⟩ := List.mem_flatMap.1 hu
      simp at hp
      rcases hp with rfl | rfl | rfl <;> rfl
    · intro v' w' h1 h2 _
      refine h v' w' ?_ ((Below.refl B w).grown h2 hB (fun k hk => (World.ownsRow.lt hown k hk).1))
      unfold OwnP
      rw [List.length_append, partCells_append]
      exact h1
end Go.Proofs.YtbdfhmffdnlbfabDoor
