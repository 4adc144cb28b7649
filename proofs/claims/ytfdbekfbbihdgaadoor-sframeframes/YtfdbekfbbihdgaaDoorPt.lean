
/- A length's text, and back. No memory in this text. -/
import Derived.Test.YtfdbekfbbihdgaaDoorPe
import Derived.Lib.AtoiTie
namespace Go.Proofs.YtfdbekfbbihdgaaDoor
open Go.Lib
set_option linter.unusedSimpArgs false

theorem dig_val : ∀ d : Fin 10, digitVal (UInt8.ofNat (48 + d.val)) = some d.val := by decide
theorem dig_ge : ∀ d : Fin 10, 48 ≤ (UInt8.ofNat (48 + d.val)).toNat ∧ (UInt8.ofNat (48 + d.val)).toNat ≤ 57 := by decide
theorem decFrom_snoc (c : UInt8) (d : Nat) (hd : digitVal c = some d) : ∀ (l : Bs) (acc : Nat), decFrom acc (l ++ [c]) = (decFrom acc l).map fun n => n * 10 + d
  | [], acc => by simp [decFrom, hd]
  | b :: l, acc => by
    simp only [List.cons_append, decFrom]
    cases digitVal b with
    | none => rfl
    | some x => simpa using decFrom_snoc c d hd l _
theorem decFrom_digits (u : Nat) : decFrom 0 (decDigits u) = some u := by
  induction u using Nat.strongRecOn with
  | _ u ih =>
    rw [decDigits]
    split
    · rename_i h
      have := dig_val ⟨u, h⟩
      simp only [] at this
      show (match digitVal (UInt8.ofNat (48 + u)) with | some d => some (0 * 10 + d) | none => none) = some u
      rw [this]
      simp
    · rename_i h
      rw [decFrom_snoc _ (u % 10) (dig_val ⟨u % 10, Nat.mod_lt _ (by decide)⟩), ih (u / 10) (by omega)]
      simp only [Option.map_some, Option.some.injEq]
      omega
theorem digits_all (u : Nat) : decDigits u ≠ [] ∧ ∀ b ∈ decDigits u, 48 ≤ b.toNat := by
  induction u using Nat.strongRecOn with
  | _ u ih =>
    rw [decDigits]
    split
    · rename_i h
      refine ⟨by simp, fun b hb => ?_⟩
      rw [List.mem_singleton] at hb
      subst hb
      exact (dig_ge ⟨u, h⟩).1
    · rename_i h
      refine ⟨by simp, fun b hb => ?_⟩
      rw [List.mem_append, List.mem_singleton] at hb
      rcases hb with hb | rfl
      · exact (ih (u / 10) (by omega)).2 b hb
      · exact (dig_ge ⟨u % 10, Nat.mod_lt _ (by decide)⟩).1
theorem digits_len : ∀ (k u : Nat), u < 10 ^ (k + 1) → (decDigits u).length ≤ k + 1
  | 0, u, h => by
    rw [decDigits, dif_pos (by simpa using h)]
    simp
  | k + 1, u, h => by
    rw [decDigits]
    split
    · simp
    · rw [List.length_append]
      have := digits_len k (u / 10) (by rw [Nat.div_lt_iff_lt_mul (by decide)]; rw [Nat.pow_succ] at h; exact h)
      simp only [List.length_cons, List.length_nil]
      omega
theorem lenL_itoa (n : Nat) (h : n ≤ 1024) : lenL (itoa (n : Int)) = some n := by
  have e : itoa (n : Int) = decDigits n := by unfold itoa; rw [if_neg (by omega)]; simp
  have hl := digits_len 3 n (by omega)
  obtain ⟨h1, h2⟩ := digits_all n
  have ha : atoiAll (decDigits n) = .ok (n : Int) := by
    rw [atoiAll_short _ (by omega)]
    have h3 := decFrom_digits n
    cases hd : decDigits n with
    | nil => exact absurd hd h1
    | cons b r =>
      rw [hd] at h2 h3
      have hb := h2 b (by simp)
      have h45 : (b == 45) = false := by rw [beq_eq_false_iff_ne]; rintro rfl; exact absurd hb (by decide)
      have h43 : (b == 43) = false := by rw [beq_eq_false_iff_ne]; rintro rfl; exact absurd hb (by decide)
      simp only [atoi, h45, h43, decNat, h3]
      rfl
  unfold lenL
  rw [e, ha]
  simp only []
  rw [if_pos ⟨by omega, by omega, e⟩]
  simp
end Go.Proofs.YtfdbekfbbihdgaaDoor
