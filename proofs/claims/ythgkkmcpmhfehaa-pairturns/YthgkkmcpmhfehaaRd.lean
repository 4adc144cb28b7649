/- tape.read: the stretch's bytes from one place to another. -/
import Derived.Test.YthgkkmcpmhfehaaPg
import Derived.Test.YthgkkmcpmhfehaaGd
import Derived.Test.YthgkkmcpmhfehaaSteps
import Derived.Shelf.RegionOpen
namespace Go.Proofs.Ythgkkmcpmhfehaa
open Go.RowKit Go.Lib Go.Shelf
set_option maxRecDepth 100000

/-- A tape's own block. -/
structure Tp (w : World) (t q : Nat) (lo hi place count met : Nat) : Prop where
  b : w.heap[t]? = some (.cells #[.pointer (some ⟨q, 0, none⟩), .int .i64 lo, .int .i64 hi, .int .i64 place, .int .i64 count, .int .i64 met] 101 (0, 0))
theorem Tp.cells {w : World} {t q lo hi place count met : Nat} (h' : Tp w t q lo hi place count met) :
    w.cell? ⟨t, 0, none⟩ = some (.pointer (some ⟨q, 0, none⟩)) ∧ w.cell? ⟨t, 1, none⟩ = some (.int .i64 lo) ∧ w.cell? ⟨t, 2, none⟩ = some (.int .i64 hi) ∧ w.cell? ⟨t, 3, none⟩ = some (.int .i64 place) ∧ w.cell? ⟨t, 4, none⟩ = some (.int .i64 count) ∧ w.cell? ⟨t, 5, none⟩ = some (.int .i64 met) ∧ ∀ i, w.frozen? ⟨t, i, none⟩ = false := by
  have h := h'.b
  exact ⟨by rw [cell_of_row _ _ _ _ _ _ h]; rfl, by rw [cell_of_row _ _ _ _ _ _ h]; rfl, by rw [cell_of_row _ _ _ _ _ _ h]; rfl, by rw [cell_of_row _ _ _ _ _ _ h]; rfl, by rw [cell_of_row _ _ _ _ _ _ h]; rfl, by rw [cell_of_row _ _ _ _ _ _ h]; rfl, fun i => frozen_of_row _ _ i _ _ h⟩
theorem Tp.lt {w : World} {t q lo hi place count met : Nat} (h : Tp w t q lo hi place count met) : t < w.heap.size := (Array.getElem?_eq_some_iff.1 h.b).1
theorem Tp.on {w w' : World} {t q lo hi place count met : Nat} (h : Tp w t q lo hi place count met) (hb : w'.heap[t]? = w.heap[t]?) : Tp w' t q lo hi place count met := ⟨hb.trans h.b⟩
theorem Tp.below {w w' : World} {t q lo hi place count met : Nat} (h : Tp w t q lo hi place count met) (hb : Below w.heap.size w w') : Tp w' t q lo hi place count met := h.on (hb.block t h.lt)

/-- The bytes from one place to another. -/
def cutB (P : List UInt8) (lo from' n : Nat) : List UInt8 := (P.drop (lo * 256 + from')).take n
/-- How many bytes have come behind k rounds. -/
def gotN (from' to' k : Nat) : Nat := min to' ((from' / 256 + k) * 256) - from'
theorem cut_step (P : List UInt8) (lo from' to' k : Nat) (h : from' ≤ to') (hk : k < pgN from' to') :
    cutB P lo from' (gotN from' to' (k + 1)) = cutB P lo from' (gotN from' to' k) ++ ((pageOf P (lo + (from' / 256 + k))).drop (from' - (from' / 256 + k) * 256)).take (min (to' - (from' / 256 + k) * 256) 256 - (from' - (from' / 256 + k) * 256)) := by
  unfold pgN at hk
  unfold gotN cutB pageOf
  generalize hx : from' / 256 + k = x at *
  have hx2 : from' / 256 + (k + 1) = x + 1 := by omega
  rw [hx2]
  rw [List.drop_take, List.take_take, List.drop_drop]
  have e1 : min to' ((x + 1) * 256) - from' = (min to' (x * 256) - from') + (min (to' - x * 256) 256 - (from' - x * 256)) := by omega
  rw [e1, List.take_add, List.drop_drop]
  congr 1
  have e2 : min (min (to' - x * 256) 256 - (from' - x * 256)) (256 - (from' - x * 256)) = min (to' - x * 256) 256 - (from' - x * 256) := by omega
  rw [e2]
  by_cases h0 : from' ≤ x * 256
  · congr 2; omega
  · congr 2; omega
theorem got_zero (from' to' : Nat) : gotN from' to' 0 = 0 := by unfold gotN; omega
theorem got_all (from' to' : Nat) (h : from' ≤ to') : gotN from' to' (pgN from' to') = to' - from' := by unfold gotN pgN; omega
theorem got_le (from' to' k : Nat) : gotN from' to' k ≤ to' - from' := by unfold gotN; omega
theorem cutB_length (P : List UInt8) (lo from' n : Nat) (h : lo * 256 + from' + n ≤ P.length) : (cutB P lo from' n).length = n := by unfold cutB; rw [List.length_take, List.length_drop]; omega
end Go.Proofs.Ythgkkmcpmhfehaa
