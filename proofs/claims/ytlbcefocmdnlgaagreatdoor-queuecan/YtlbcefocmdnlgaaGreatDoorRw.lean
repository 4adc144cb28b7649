/- Rows in the call's own memory whose elements have several cells: what append in place and clear leave. Conditions: those that each row states. -/
import Derived.Laws.AppendOwn
import Derived.OwnWalk
import Derived.Below
namespace Go.Proofs.YtlbcefocmdnlgaaGreatDoor
open Go.RowKit

/-- Elements of k cells each, told by their cells and by what they are. -/
abbrev Zs (α : Type) := List (List Value × α)
def cellsZ {α : Type} (zs : Zs α) : List Value := zs.flatMap (·.1)
theorem cellsZ_app {α : Type} (a b : Zs α) : cellsZ (a ++ b) = cellsZ a ++ cellsZ b := by simp [cellsZ]
theorem cellsZ_len {α : Type} {k : Nat} : ∀ {zs : Zs α}, (∀ z ∈ zs, z.1.length = k) → (cellsZ zs).length = zs.length * k
  | [], _ => by simp [cellsZ]
  | z :: zs, h => by
    have := cellsZ_len (k := k) (zs := zs) (fun y hy => h y (List.mem_cons_of_mem _ hy))
    simp only [cellsZ, List.flatMap_cons, List.length_append, List.length_cons] at this ⊢
    rw [this, h z (List.mem_cons_self ..), Nat.succ_mul, Nat.add_comm]
theorem cellsZ_at {α : Type} {k : Nat} : ∀ {zs : Zs α}, (∀ z ∈ zs, z.1.length = k) → ∀ (i : Nat) (h : i < zs.length) (j : Nat), j < k → (cellsZ zs)[i * k + j]? = (zs[i].1)[j]?
  | z :: zs, hk, 0, _, j, hj => by
    simp only [cellsZ, List.flatMap_cons, List.getElem_cons_zero, Nat.zero_mul, Nat.zero_add]
    rw [List.getElem?_append_left (by rw [hk z (List.mem_cons_self ..)]; exact hj)]
  | z :: zs, hk, i + 1, h, j, hj => by
    have := cellsZ_at (k := k) (zs := zs) (fun y hy => hk y (List.mem_cons_of_mem _ hy)) i (by simpa using h) j hj
    simp only [cellsZ, List.flatMap_cons, List.getElem_cons_succ] at this ⊢
    have hz := hk z (List.mem_cons_self ..)
    rw [List.getElem?_append_right (by rw [hz, Nat.succ_mul]; omega), ← this]
    congr 1
    rw [hz, Nat.succ_mul]
    omega
theorem cellsZ_take {α : Type} {k : Nat} : ∀ {zs : Zs α}, (∀ z ∈ zs, z.1.length = k) → ∀ i, (cellsZ zs).take (i * k) = cellsZ (zs.take i)
  | [], _, i => by simp [cellsZ]
  | z :: zs, hk, 0 => by simp [cellsZ]
  | z :: zs, hk, i + 1 => by
    have := cellsZ_take (k := k) (zs := zs) (fun y hy => hk y (List.mem_cons_of_mem _ hy)) i
    simp only [cellsZ, List.flatMap_cons, List.take_succ_cons] at this ⊢
    have hz := hk z (List.mem_cons_self ..)
    rw [List.take_append, hz, List.take_of_length_le (by rw [hz, Nat.succ_mul]; omega), ← this, Nat.succ_mul, Nat.add_sub_cancel]
theorem cellsZ_drop {α : Type} {k : Nat} : ∀ {zs : Zs α}, (∀ z ∈ zs, z.1.length = k) → ∀ i, (cellsZ zs).drop (i * k) = cellsZ (zs.drop i)
  | [], _, i => by simp [cellsZ]
  | z :: zs, hk, 0 => by simp [cellsZ]
  | z :: zs, hk, i + 1 => by
    have := cellsZ_drop (k := k) (zs := zs) (fun y hy => hk y (List.mem_cons_of_mem _ hy)) i
    simp only [cellsZ, List.flatMap_cons, List.drop_succ_cons] at this ⊢
    have hz := hk z (List.mem_cons_self ..)
    rw [List.drop_append, hz, List.drop_of_length_le (by rw [hz, Nat.succ_mul]; omega), ← this, Nat.succ_mul, Nat.add_sub_cancel, List.nil_append]

/-- clear of a slice of elements of several cells, in a row of the call's own. -/
theorem run_clear_row {P : Program} (w : World) (t e ty : TypeId) (z : Value) (ht : P.underlying t = some (.slice e)) (hv : ∀ w, (zeroValue e).run P w = .ok z w) (h1 : ∀ u ∈ z.cells.toList, u.oneCell' = true)
    (g o n c : Nat) (hn : 0 < n) (cur : Array Value) (hg : w.heap[g]? = some (.cells cur e (0, 0))) (hfit : o + n * z.cells.size ≤ cur.size) :
    ∃ zs : List Value, zs.length = n * z.cells.size ∧ (Builtin.clear_ #[t] ty #[.slice (some ⟨g, o, none⟩) n c]).run P w = .ok (.tuple #[]) (w.setRow g (cur.toList.take o ++ zs ++ cur.toList.drop (o + zs.length)).toArray) := by
  have hl : (Builtin.zeroCells z.cells n).toList.length = n * z.cells.size := by simp [Builtin.zeroCells]
  refine ⟨(Builtin.zeroCells z.cells n).toList, hl, ?_⟩
  have hone : ∀ u ∈ (Builtin.zeroCells z.cells n).toList, u.oneCell' = true := by
    intro u hu
    simp only [Builtin.zeroCells, Array.toList_map, List.mem_map] at hu
    obtain ⟨i, hi, rfl⟩ := hu
    have hi2 : i < n * z.cells.size := by simpa using hi
    have hpos : 0 < z.cells.size := by
      rcases Nat.eq_zero_or_pos z.cells.size with h0 | h0
      · rw [h0] at hi2; omega
      · exact h0
    have hm := Nat.mod_lt i hpos
    rw [getElem!_pos z.cells (i % z.cells.size) hm]
    exact h1 _ (by simp)
  have hst := run_storeCells_at P g o e (Builtin.zeroCells z.cells n).toList 0 cur w hg (by rw [hl]; omega) hone
  obtain ⟨m, rfl⟩ : ∃ m, n = m + 1 := ⟨n - 1, by omega⟩
  simp only [Nat.add_zero] at hst
  simp [Builtin.clear_, run_underlying ht, hv, hst]
end Go.Proofs.YtlbcefocmdnlgaaGreatDoor
