/- What the small tests of package queue, and Len, answer. -/
import Derived.Test.YtlbcefocmdnlgaaGreatDoorBx
namespace Go.Proofs.YtlbcefocmdnlgaaGreatDoor
open Go.RowKit Go.Lib
set_option maxRecDepth 100000

theorem num_any (w : World) (n : Int) : Calls Tryz.prog 34 #[.int .i64 n] w fun e w' => e = .returned (.bool (numB n)) ∧ w' = w := by
  unfold numB
  by_cases h1 : (0 : Int) ≤ n <;> by_cases h2 : n ≤ (1099511627776 : Int)
  all_goals
    go_enter Tryz.func34, Tryz.ntmps34
    go_wp2
    go_ret
    exact ⟨ret_b (by simp [h1, h2]), rfl⟩
theorem dep_any (w : World) (n : Int) : Calls Tryz.prog 30 #[.int .i64 n] w fun e w' => e = .returned (.bool (depB n)) ∧ w' = w := by
  unfold depB
  by_cases h1 : (1 : Int) ≤ n <;> by_cases h2 : n ≤ (64 : Int)
  all_goals
    go_enter Tryz.func30, Tryz.ntmps30
    go_wp2
    go_ret
    exact ⟨ret_b (by simp [h1, h2]), rfl⟩
theorem con_any (w : World) (n : Int) : Calls Tryz.prog 49 #[.int .i64 n] w fun e w' => e = .returned (.bool (conB n)) ∧ w' = w := by
  unfold conB
  by_cases h1 : (0 : Int) ≤ n <;> by_cases h2 : n < (8 : Int)
  all_goals
    go_enter Tryz.func49, Tryz.ntmps49
    go_wp2
    go_ret
    exact ⟨ret_b (by simp [h1, h2]), rfl⟩
theorem giv_any (w : World) (n l : Int) : Calls Tryz.prog 66 #[.int .i64 n, .int .i64 l] w fun e w' => e = .returned (.bool (givB n l)) ∧ w' = w := by
  unfold givB
  by_cases h1 : (1 : Int) ≤ n <;> by_cases h2 : n ≤ l
  all_goals
    go_enter Tryz.func66, Tryz.ntmps66
    go_wp2
    go_ret
    exact ⟨ret_b (by simp [h1, h2]), rfl⟩
theorem len_any (w : World) (v : Value) (q : Que) (h : RdQ w v q) (hs : lenQ q ≤ 9223372036854775807) : Calls Tryz.prog 15 #[v] w fun e w' => e = .returned (.int .i64 (lenQ q)) ∧ Below w.heap.size w w' := by
  obtain ⟨iv, hv, rfl, hi, hh⟩ := h
  obtain ⟨ai, ci, rfl⟩ := hi.len
  obtain ⟨ah, ch, rfl⟩ := hh.len
  unfold lenQ at *
  unfold queV
  generalize q.items.length = ni at *
  generalize q.held.length = nh at *
  clear hi hh
  go_enter Tryz.func15, Tryz.ntmps15
  go_wp2
  go_ret
  refine ⟨ret_i ?_, (Below.refl _ w).alloc (Nat.le_refl _) _⟩
  go_num
end Go.Proofs.YtlbcefocmdnlgaaGreatDoor
