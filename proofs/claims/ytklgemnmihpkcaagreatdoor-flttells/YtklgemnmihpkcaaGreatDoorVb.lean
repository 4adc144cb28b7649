/- The digits chosen lie between the bounds. -/
import Derived.Test.YtklgemnmihpkcaaGreatDoorVa
set_option maxRecDepth 100000
namespace Go.Proofs.YtklgemnmihpkcaaGreatDoor

theorem le_qw {k V W : Nat} (hW : 0 < W) (h : k * W ≤ V) : k ≤ qw V W :=
  Nat.le_trans ((Nat.le_div_iff_mul_le hW).2 h) (qw_bounds V W).1
theorem qw_le_odd {k V W : Nat} (hW : 0 < W) (h : V < (2 * k + 2) * W) : qw V W ≤ 2 * k + 1 := by
  have h1 : V / W < 2 * k + 2 := (Nat.div_lt_iff_lt_mul hW).2 h
  have := (qw_bounds V W).2
  omega
theorem of_le_qw {k V W : Nat} (hW : 0 < W) (h : 2 * k ≤ qw V W) : 2 * k * W ≤ V := by
  have h1 := (qw_bounds V W).2
  exact (Nat.le_div_iff_mul_le hW).1 (by omega)
theorem of_qw_le {k V W : Nat} (hW : 0 < W) (h : qw V W ≤ k) : V < (k + 1) * W := by
  have h1 := (qw_bounds V W).1
  exact (Nat.div_lt_iff_lt_mul hW).1 (by omega)

theorem mid_lo {A B C W a b odd : Nat} (hW : 0 < W) (ho : odd ≤ 1) (ha : (qw A W + odd + 3) / 4 = a) (hb : (qw B W - odd) / 4 = b) (hab : a < b) (h1 : A + B ≤ 2 * C + 1) : 4 * a ≤ qw C W := by
  refine le_qw hW ?_
  have b1 : 2 * (2 * b) * W ≤ B := of_le_qw hW (by omega)
  rcases Nat.eq_zero_or_pos a with h0 | h0
  · subst h0; omega
  · have a1 : 2 * (2 * (a - 1)) * W ≤ A := of_le_qw hW (by omega)
    have m1 : (a - 1 + 2) * W ≤ (b + 0) * W + W * 0 + 0 := by
      have : (a + 1) * W ≤ b * W := Nat.mul_le_mul_right _ hab
      rw [show a - 1 + 2 = a + 1 from by omega]
      simpa using this
    have e1 : 2 * (2 * b) * W = 4 * (b * W) := by rw [← Nat.mul_assoc, Nat.mul_assoc]
    have e2 : 2 * (2 * (a - 1)) * W = 4 * ((a - 1) * W) := by rw [← Nat.mul_assoc, Nat.mul_assoc]
    have e3 : 4 * a * W = 4 * ((a - 1) * W) + 4 * W := by
      rw [Nat.mul_assoc, ← Nat.mul_add]
      congr 1
      rw [← Nat.succ_mul]
      congr 1
      omega
    rw [e3]
    rw [e1] at b1
    rw [e2] at a1
    rw [Nat.add_mul, Nat.add_zero, Nat.mul_zero, Nat.add_zero] at m1
    generalize (a - 1) * W = X at *
    generalize b * W = Y at *
    omega
theorem mid_hi {A B C W a b odd : Nat} (hW : 0 < W) (ho : odd ≤ 1) (ha : (qw A W + odd + 3) / 4 = a) (hb : (qw B W - odd) / 4 = b) (hab : a < b) (h2 : 2 * C ≤ A + B + 1) : qw C W ≤ 4 * b + 1 := by
  have hlt : C < (2 * (2 * b) + 2) * W := by
    have a1 : A < (4 * a + 1) * W := of_qw_le hW (by omega)
    have b1 : B < (4 * b + 4 + 1) * W := of_qw_le hW (by omega)
    have m1 : (a + 1) * W ≤ b * W := Nat.mul_le_mul_right _ hab
    have e1 : (4 * a + 1) * W = 4 * (a * W) + W := by rw [Nat.add_mul, Nat.mul_assoc, Nat.one_mul]
    have e2 : (4 * b + 4 + 1) * W = 4 * (b * W) + 5 * W := by rw [Nat.add_assoc, Nat.add_mul, Nat.mul_assoc]
    have e3 : (2 * (2 * b) + 2) * W = 4 * (b * W) + 2 * W := by rw [Nat.add_mul, ← Nat.mul_assoc, Nat.mul_assoc]
    rw [Nat.add_mul, Nat.one_mul] at m1
    rw [e3]
    rw [e1] at a1
    rw [e2] at b1
    generalize a * W = X at *
    generalize b * W = Y at *
    omega
  have := qw_le_odd hW hlt
  omega

/-- What the chosen digits are worth, in the last place's units. -/
theorem fin_in {A B C W odd : Nat} {p : Int} (hW : 2 ≤ W) (ho : odd ≤ 1) (h1 : A + B ≤ 2 * C + 1) (h2 : 2 * C ≤ A + B + 1) (hw : A + 4 * W ≤ B) (hs : odd = 1 → A + 4 * W + 2 ≤ B ∨ qw A W % 4 ≠ 0) (hp : p ≤ 400) :
    ∃ D, (qw A W + odd + 3) / 4 ≤ D ∧ D ≤ (qw B W - odd) / 4 ∧ (fin (qw C W) (qw A W) (qw B W) odd p).1 * 10 ^ ((fin (qw C W) (qw A W) (qw B W) odd p).2 + 400).toNat = D * 10 ^ (400 - p).toNat := by
  obtain ⟨a, ha⟩ : ∃ a, (qw A W + odd + 3) / 4 = a := ⟨_, rfl⟩
  obtain ⟨b, hb⟩ : ∃ b, (qw B W - odd) / 4 = b := ⟨_, rfl⟩
  unfold fin
  rw [ha, hb]
  by_cases c1 : a ≤ b / 10 * 10
  · rw [if_pos c1]
    refine ⟨b / 10 * 10, c1, by omega, ?_⟩
    dsimp only
    rw [show (-(p - 1) + 400).toNat = (400 - p).toNat + 1 from by omega, Nat.pow_succ, Nat.mul_assoc, Nat.mul_comm (10 ^ _) 10]
  · rw [if_neg c1]
    by_cases c2 : a < b
    · rw [if_pos c2]
      have l := mid_lo (by omega) ho ha hb c2 h1
      have u := mid_hi (by omega) ho ha hb c2 h2
      refine ⟨(qw C W + 1 + qw C W / 4 % 2) / 4, by omega, by omega, ?_⟩
      dsimp only
      rw [show (-p + 400).toNat = (400 - p).toNat from by omega]
    · rw [if_neg c2]
      have m4 := qw_mono (W := W) hw
      rw [qw_add4 A W (by omega)] at m4
      refine ⟨a, Nat.le_refl _, ?_, ?_⟩
      · rcases Nat.lt_or_ge 0 odd with h | h
        · have e : odd = 1 := by omega
          by_cases h4 : qw A W % 4 = 0
          · rcases hs e with h5 | h5
            · have := qw_more hW h4 h5
              omega
            · exact absurd h4 h5
          · omega
        · omega
      · dsimp only
        rw [show (-p + 400).toNat = (400 - p).toNat from by omega]
end Go.Proofs.YtklgemnmihpkcaaGreatDoor
