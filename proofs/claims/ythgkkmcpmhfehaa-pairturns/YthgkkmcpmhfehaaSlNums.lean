/- What seal.join, seal.halves and both Starts answer of any numbers. -/
import Derived.Test.YthgkkmcpmhfehaaSlMath
import Derived.Test.YthgkkmcpmhfehaaChecked
import Derived.WalkKit
import Derived.Laws.Bits64b
namespace Go.Proofs.Ythgkkmcpmhfehaa.Sl
open Go.RowKit

theorem or31 (x y : Nat) (hx : x < 2147483647) (hy : y < 2147483647) : bits .or .u64 ((x : Int) * 2147483648) (y : Int) = ((joinN x y : Nat) : Int) := by
  have e : ((x : Int) * 2147483648) = ((x * 2147483648 : Nat) : Int) := by omega
  rw [e, bits_or_u64_nat _ _ (by omega) (by omega)]
  have h := Nat.shiftLeft_add_eq_or_of_lt (i := 31) (b := y) (by omega) x
  rw [Nat.shiftLeft_eq, show (2 : Nat) ^ 31 = 2147483648 from by decide] at h
  rw [← h]; rfl
theorem and31 (n : Nat) (hn : n < 18446744073709551616) : bits .and .u64 (n : Int) 2147483647 = ((n % 2147483648 : Nat) : Int) := by
  rw [show (2147483647 : Int) = ((2147483647 : Nat) : Int) from by omega, bits_and_u64_nat _ _ hn (by omega)]
  have h := Nat.and_two_pow_sub_one_eq_mod n 31
  rw [show (2 : Nat) ^ 31 = 2147483648 from by decide] at h
  rw [← h]
theorem and31d (n : Nat) (hn : n < 18446744073709551616) : bits .and .u64 ((n : Int) / 2147483648) 2147483647 = ((n / 2147483648 % 2147483648 : Nat) : Int) := by
  rw [show (n : Int) / 2147483648 = ((n / 2147483648 : Nat) : Int) from by omega]
  exact and31 _ (by omega)
theorem ret_int {k : IntKind} {a b : Int} (h : a = b) : Ending.returned (.int k a) = .returned (.int k b) := by rw [h]
theorem ret_int2 {k k' : IntKind} {a b a' b' : Int} (h : a = b) (h' : a' = b') : Ending.returned (.tuple #[.int k a, .int k' a']) = .returned (.tuple #[.int k b, .int k' b']) := by rw [h, h']
theorem haL_int (n : Nat) : (((n / 2147483648 % 2147483648 : Nat) : Int)).tmod 2147483647 = ((haL n : Nat) : Int) := by
  rw [Int.tmod_eq_emod_of_nonneg (by omega)]; unfold haL; omega
theorem haR_int (n : Nat) : (((n % 2147483648 : Nat) : Int)).tmod 2147483647 = ((haR n : Nat) : Int) := by
  rw [Int.tmod_eq_emod_of_nonneg (by omega)]; unfold haR; omega

set_option maxHeartbeats 400000 in
theorem join_any (w : World) (x y : Nat) (hx : x < 2147483647) (hy : y < 2147483647) :
    Calls Try.prog 97 #[.int .u64 x, .int .u64 y] w fun e w' => e = .returned (.int .u64 (joinN x y : Nat)) ∧ w' = w := by
  go_enter Try.func97, Try.ntmps97
  go_wp2
  go_ret
  exact ⟨ret_int (or31 x y hx hy), rfl⟩
set_option maxHeartbeats 400000 in
theorem halves_any (w : World) (n : Nat) (hn : n < 18446744073709551616) :
    Calls Try.prog 96 #[.int .u64 n] w fun e w' => e = .returned (.tuple #[.int .u64 (haL n : Nat), .int .u64 (haR n : Nat)]) ∧ w' = w := by
  go_enter Try.func96, Try.ntmps96
  go_wp2
  go_ret2
  exact ⟨ret_int2 (by rw [and31d n hn, haL_int]) (by rw [and31 n hn, haR_int]), rfl⟩
theorem tmod_two (s : Int) : (0 ≤ s ∧ s.tmod 2147483647 = s % 2147483647) ∨ (s < 0 ∧ s.tmod 2147483647 = -((-s) % 2147483647)) := by
  by_cases h : 0 ≤ s
  · exact .inl ⟨h, Int.tmod_eq_emod_of_nonneg h⟩
  · refine .inr ⟨by omega, ?_⟩
    rw [← Int.tmod_eq_emod_of_nonneg (by omega : 0 ≤ -s), Int.neg_tmod, Int.neg_neg]
theorem tmod_lo (s : Int) : -2147483647 < s.tmod 2147483647 ∧ s.tmod 2147483647 < 2147483647 := by have := tmod_two s; omega
theorem rest_pos (s : Int) (h : 0 ≤ s.tmod 2147483647) : s.tmod 2147483647 = ((restN s : Nat) : Int) := by have := tmod_two s; unfold restN; omega
theorem rest_neg (s : Int) (h : s.tmod 2147483647 < 0) : s.tmod 2147483647 + 2147483647 = ((restN s : Nat) : Int) := by have := tmod_two s; unfold restN; omega
theorem calls_eq {P : Program} {f : Nat} {a a' : Array Value} {w : World} {Q : Ending → World → Prop} (h : a = a') (hc : Calls P f a' w Q) : Calls P f a w Q := h ▸ hc
theorem two_u64 {a b a' b' : Int} (h : a = a') (h' : b = b') : #[Value.int .u64 a, Value.int .u64 b] = #[Value.int .u64 a', Value.int .u64 b'] := by rw [h, h']

set_option maxHeartbeats 400000 in
theorem start_any (w : World) (s : Int) :
    Calls Try.prog 93 #[.int .i64 s] w fun e w' => e = .returned (.int .u64 (startN s : Nat)) ∧ w' = w := by
  have ht := tmod_lo s
  obtain ⟨ht0, ht1⟩ := ht
  have hr := restN_lt s
  by_cases hn : s.tmod 2147483647 < 0
  · have e := rest_neg s hn
    go_enter Try.func93, Try.ntmps93
    go_wp2_with fail
    refine calls_eq (two_u64 rfl (b' := (((restN s + 1) % 2147483647 : Nat) : Int)) (by omega)) ?_
    refine (join_any w _ _ hr (by omega)).mono ?_
    rintro e w' ⟨rfl, rfl⟩
    go_wp2
    go_ret
    exact ⟨rfl, rfl⟩
  · have e := rest_pos s (by omega)
    have hn' : 0 ≤ s.tmod 2147483647 := by omega
    go_enter Try.func93, Try.ntmps93
    go_wp2_with fail
    refine calls_eq (two_u64 rfl (b' := (((restN s + 1) % 2147483647 : Nat) : Int)) (by omega)) ?_
    refine (join_any w _ _ hr (by omega)).mono ?_
    rintro e w' ⟨rfl, rfl⟩
    go_wp2
    go_ret
    exact ⟨rfl, rfl⟩
theorem start_val (s : Int) : (restN s : Int) * 2147483648 + ((restN s : Int) + 1) % 2147483647 = ((startN s : Nat) : Int) := by unfold startN joinN; omega
set_option maxHeartbeats 400000 in
theorem refstart_any (w : World) (s : Int) :
    Calls Try.prog 81 #[.int .i64 s] w fun e w' => e = .returned (.int .u64 (startN s : Nat)) ∧ w' = w := by
  have ht := tmod_lo s
  obtain ⟨ht0, ht1⟩ := ht
  have hr := restN_lt s
  have hv := start_val s
  by_cases hn : s.tmod 2147483647 < 0
  · have e := rest_neg s hn
    go_enter Try.func81, Try.ntmps81
    go_wp2
    go_ret
    exact ⟨rfl, rfl⟩
  · have e := rest_pos s (by omega)
    have hn' : 0 ≤ s.tmod 2147483647 := by omega
    go_enter Try.func81, Try.ntmps81
    go_wp2
    go_ret
    exact ⟨rfl, rfl⟩
end Go.Proofs.Ythgkkmcpmhfehaa.Sl
