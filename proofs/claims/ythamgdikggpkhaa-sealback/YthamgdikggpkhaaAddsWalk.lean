/- The statements SealAdds and SealSeeds, walked: they answer true, and of what was there nothing has turned, for any seeds, numbers and bytes that can be read. -/
import Derived.Test.YthamgdikggpkhaaWakes
namespace Go.Proofs.Ythamgdikggpkhaa
open Go.RowKit Go.Lib

set_option maxHeartbeats 1000000 in
theorem adds_walk (w : World) (s : Int) (n : Nat) (v : Value) (l : List UInt8) (hn : n < 18446744073709551616) (h : RdA w v l) (hl : l.length ≤ 140737488355328) :
    Calls Try.prog 3 #[.int .i64 s, .int .u64 n, v] w fun e w' => e = .returned (.bool true) ∧ Below w.heap.size w w' := by
  obtain ⟨a, c, rfl⟩ := h.len
  have HB : Hid (RdA w (.slice a l.length c) l) := h
  clear h
  by_cases hbig : 16384 < l.length
  · go_enter Try.func3, Try.ntmps3
    go_wp2_with (go_at_call 9; refine (wakes_any _).mono ?_; rintro e w1 ⟨rfl, b1⟩)
    go_ret
    exact ⟨rfl, b1⟩
  · go_enter Try.func3, Try.ntmps3
    go_wp2_with (first | (go_at_call 9; refine (wakes_any _).mono ?_; rintro e w1 ⟨rfl, b1⟩) | (go_at_call 10; refine (start_any _ _).mono ?_; rintro e w' ⟨rfl, rfl⟩) | (go_at_call 11; refine (refstart_any _ _).mono ?_; rintro e w' ⟨rfl, rfl⟩) | (go_at_call 12; refine (add_any _ _ _ l hn (HB.out.on b1) hl).mono ?_; rintro e w' ⟨rfl, rfl⟩) | (go_at_call 13; refine (refadd_any _ _ _ l hn (HB.out.on b1) hl).mono ?_; rintro e w' ⟨rfl, rfl⟩) | (go_at_call 14; refine (of_any _ _ _ l (HB.out.on b1) hl).mono ?_; rintro e w' ⟨rfl, rfl⟩) | (go_at_call 15; refine (refof_any _ _ _ l (HB.out.on b1) hl).mono ?_; rintro e w' ⟨rfl, rfl⟩))
    go_ret
    exact ⟨rfl, b1⟩

theorem like_iff (x y : Int) : (x.tmod 2147483647 - y.tmod 2147483647).tmod 2147483647 = 0 ↔ restN x = restN y := by
  have h1 := tmod_two x; have h2 := tmod_two y; have h3 := tmod_two (x.tmod 2147483647 - y.tmod 2147483647)
  unfold restN; omega
theorem ret_true {b : Bool} (h : b = true) : Ending.returned (.bool b) = .returned (.bool true) := by rw [h]
theorem seeds_eq (x y : Int) (l : List UInt8) : (((addN (startN x) l : Nat) : Int) == ((addN (startN y) l : Nat) : Int)) = ((x.tmod 2147483647 - y.tmod 2147483647).tmod 2147483647 == 0) := by
  rw [Bool.eq_iff_iff, beq_iff_eq, beq_iff_eq, like_iff, ← seeds x y l]; omega
set_option maxHeartbeats 1000000 in
theorem seeds_walk (w : World) (x y : Int) (v : Value) (l : List UInt8) (h : RdA w v l) (hl : l.length ≤ 140737488355328) :
    Calls Try.prog 7 #[.int .i64 x, .int .i64 y, v] w fun e w' => e = .returned (.bool true) ∧ Below w.heap.size w w' := by
  obtain ⟨a, c, rfl⟩ := h.len
  have HB : Hid (RdA w (.slice a l.length c) l) := h
  clear h
  by_cases hbig : 16384 < l.length
  · go_enter Try.func7, Try.ntmps7
    go_wp2_with (go_at_call 9; refine (wakes_any _).mono ?_; rintro e w1 ⟨rfl, b1⟩)
    go_ret
    exact ⟨rfl, b1⟩
  · have ht := tmod_lo x
    obtain ⟨hx0, hx1⟩ := ht
    have ht := tmod_lo y
    obtain ⟨hy0, hy1⟩ := ht
    go_enter Try.func7, Try.ntmps7
    go_wp2_with (first | (go_at_call 9; refine (wakes_any _).mono ?_; rintro e w1 ⟨rfl, b1⟩) | (go_at_call 14; refine (of_any _ _ _ l (HB.out.on b1) hl).mono ?_; rintro e w' ⟨rfl, rfl⟩))
    go_ret
    exact ⟨ret_true (by rw [seeds_eq]; simp), b1⟩
end Go.Proofs.Ythamgdikggpkhaa
