
/- Of 64 bits and of 24: which float of 24 bits has a float's value, and what widening one gives. -/
import Derived.Test.YtmaaacaifpgpaaaGreatDoorFl
namespace Go.Proofs.YtmaaacaifpgpaaaGreatDoor
open Ieee

/-- How many places the least ones of both lie apart. -/
@[irreducible] def k925 : Nat := 925
theorem k925_eq : k925 = 925 := by unfold k925; rfl
theorem b64 : double.binade = 2 ^ 52 := rfl
theorem b32 : single.binade = 2 ^ 23 := rfl
theorem i64 : double.infRung = 2047 * 2 ^ 52 := rfl
theorem i32 : single.infRung = 255 * 2 ^ 23 := rfl
theorem s64 : double.signWeight = 2 ^ 63 := rfl
theorem s32 : single.signWeight = 2 ^ 31 := rfl
theorem l64 : double.leastPlace = -1074 := by decide
theorem l32 : single.leastPlace = -149 := by decide
theorem bi64 : double.binade ≤ double.infRung := by decide
theorem bi32 : single.binade ≤ single.infRung := by decide

/-- The rung of 64 bits with the value of one of 24 (finite ones). -/
def upR (s : Nat) : Nat :=
  if s = 0 then 0
  else if s < 2 ^ 23 then (874 + s.log2) * 2 ^ 52 + (s * 2 ^ (52 - s.log2) - 2 ^ 52)
  else (s / 2 ^ 23 + 896) * 2 ^ 52 + s % 2 ^ 23 * 2 ^ 29

/-- The rung of 24 bits with the value of one of 64, if there is one (finite ones). -/
def downR (r : Nat) : Option Nat :=
  if r = 0 then some 0
  else if 897 ≤ r / 2 ^ 52 ∧ r / 2 ^ 52 ≤ 1150 ∧ r % 2 ^ 29 = 0 then some ((r / 2 ^ 52 - 896) * 2 ^ 23 + r % 2 ^ 52 / 2 ^ 29)
  else if r / 2 ^ 52 < 897 ∧ 874 ≤ r / 2 ^ 52 ∧ (r % 2 ^ 52 + 2 ^ 52) % 2 ^ (926 - r / 2 ^ 52) = 0 then some ((r % 2 ^ 52 + 2 ^ 52) / 2 ^ (926 - r / 2 ^ 52))
  else none

theorem qB (q t : Nat) (h : (q + 1) * 2 ^ 23 + t < 255 * 2 ^ 23) : q ≤ 253 := by omega
theorem tB {t : Nat} (ht : t < 2 ^ 23) : t * 2 ^ 29 < 2 ^ 52 := by omega
theorem e9 (q : Nat) : 29 + (q + 896) = q + k925 := by rw [k925_eq]; omega
theorem eB (t : Nat) : 2 ^ 52 + t * 2 ^ 29 = (2 ^ 23 + t) * 2 ^ 29 := by omega
theorem iB {q t : Nat} (hq : q ≤ 253) (ht : t < 2 ^ 23) : (q + 1 + 896) * 2 ^ 52 + t * 2 ^ 29 < 2047 * 2 ^ 52 := by omega
theorem fB (q t : Nat) : (q + 897 - 896) * 2 ^ 23 + t * 2 ^ 29 / 2 ^ 29 = (q + 1) * 2 ^ 23 + t := by
  have h1 : t * 2 ^ 29 / 2 ^ 29 = t := by omega
  have h2 : q + 897 - 896 = q + 1 := by omega
  rw [h1, h2]
theorem rB (r : Nat) (a : 897 ≤ r / 2 ^ 52) (b : r / 2 ^ 52 ≤ 1150) (c : r % 2 ^ 29 = 0) : ∃ q t, q ≤ 253 ∧ t < 2 ^ 23 ∧ r = (q + 897) * 2 ^ 52 + t * 2 ^ 29 := ⟨r / 2 ^ 52 - 897, r % 2 ^ 52 / 2 ^ 29, by omega, by omega, by omega⟩
theorem kB {e k t : Nat} (he : e ≤ 22) (ht : t < 2 ^ 52) (hd : 2 ^ (52 - e) * k = t + 2 ^ 52) : k < 2 ^ 23 := by
  have h5 : k * 2 ^ (52 - e) < 2 ^ 53 := by rw [Nat.mul_comm]; omega
  have h6 : 2 ^ 23 * 2 ^ 30 ≤ 2 ^ 23 * 2 ^ (52 - e) := Nat.mul_le_mul_left _ (Nat.pow_le_pow_right (by omega) (by omega))
  by_cases h7 : k < 2 ^ 23
  · exact h7
  · have h8 := Nat.mul_le_mul_right (2 ^ (52 - e)) (Nat.le_of_not_lt h7)
    omega
theorem sB {k : Nat} (h : k < 2 ^ 23) : k < 255 * 2 ^ 23 := by omega
theorem nB {q t : Nat} (hq : q ≤ 253) (ht : t < 2 ^ 23) : (q + 1) * 2 ^ 23 + t < 255 * 2 ^ 23 := by omega

theorem zG (k : Nat) : valR double 0 = valR single 0 * k := by rw [valR_zero, valR_zero, Nat.zero_mul]

theorem up_val {s : Nat} (h : s < single.infRung) : valR double (upR s) = valR single s * 2 ^ k925 ∧ upR s < double.infRung := by
  rw [i32] at h
  unfold upR
  by_cases h0 : s = 0
  · subst h0; rw [if_pos rfl]; exact ⟨zG _, by decide⟩
  rw [if_neg h0]
  by_cases h1 : s < 2 ^ 23
  · rw [if_pos h1]
    have hl : s.log2 < 23 := (Nat.log2_lt h0).2 h1
    have lo : 2 ^ s.log2 ≤ s := Nat.log2_self_le h0
    have hi : s < 2 ^ (s.log2 + 1) := Nat.lt_log2_self
    have e52 : 2 ^ s.log2 * 2 ^ (52 - s.log2) = 2 ^ 52 := by rw [← Nat.pow_add]; congr 1; omega
    have lo' := Nat.mul_le_mul_right (2 ^ (52 - s.log2)) lo
    have hi' := Nat.mul_lt_mul_of_pos_right hi (Nat.two_pow_pos (52 - s.log2))
    rw [e52] at lo'
    rw [Nat.pow_succ, Nat.mul_assoc, Nat.mul_comm 2, ← Nat.mul_assoc, e52] at hi'
    have ev := @valR_high double (873 + s.log2) (s * 2 ^ (52 - s.log2) - 2 ^ 52) (by rw [b64]; omega)
    rw [b64] at ev
    have ea : 873 + s.log2 + 1 = 874 + s.log2 := by omega
    rw [ea] at ev
    rw [ev, valR_low (f := single) (by rw [b32]; exact h1)]
    refine ⟨?_, ?_⟩
    · rw [Nat.add_sub_cancel' lo', Nat.mul_assoc, ← Nat.pow_add]
      have e9 : 52 - s.log2 + (873 + s.log2) = k925 := by rw [k925_eq]; omega
      rw [e9]
    · rw [i64]; omega
  · rw [if_neg h1]
    obtain ⟨q, t, ht, rfl⟩ : ∃ q t, t < 2 ^ 23 ∧ s = (q + 1) * 2 ^ 23 + t := by
      rcases rung_cases single s with h2 | ⟨q, t, h3, h4⟩
      · rw [b32] at h2; exact absurd h2 h1
      · rw [b32] at h3 h4; exact ⟨q, t, h3, h4⟩
    have d1 : ((q + 1) * 2 ^ 23 + t) / 2 ^ 23 = q + 1 := by omega
    have d2 : ((q + 1) * 2 ^ 23 + t) % 2 ^ 23 = t := by omega
    rw [d1, d2]
    have hq : q ≤ 253 := qB q t h
    clear d1 d2 h0 h1 h
    have ev := @valR_high double (q + 896) (t * 2 ^ 29) (by rw [b64]; exact tB ht)
    have ev' := @valR_high single q t (by rw [b32]; exact ht)
    rw [b64] at ev
    rw [b32] at ev'
    have ea : q + 896 + 1 = q + 1 + 896 := by omega
    rw [ea] at ev
    rw [ev, ev']
    refine ⟨?_, ?_⟩
    · rw [eB, Nat.mul_assoc, ← Nat.pow_add, Nat.mul_assoc, ← Nat.pow_add, e9]
    · rw [i64]; exact iB hq ht

theorem down_up {s : Nat} (h : s < single.infRung) : downR (upR s) = some s := by
  rw [i32] at h
  unfold upR
  by_cases h0 : s = 0
  · subst h0; simp [downR]
  rw [if_neg h0]
  by_cases h1 : s < 2 ^ 23
  · rw [if_pos h1]
    have hl : s.log2 < 23 := (Nat.log2_lt h0).2 h1
    have lo : 2 ^ s.log2 ≤ s := Nat.log2_self_le h0
    have hi : s < 2 ^ (s.log2 + 1) := Nat.lt_log2_self
    have e52 : 2 ^ s.log2 * 2 ^ (52 - s.log2) = 2 ^ 52 := by rw [← Nat.pow_add]; congr 1; omega
    have lo' := Nat.mul_le_mul_right (2 ^ (52 - s.log2)) lo
    have hi' := Nat.mul_lt_mul_of_pos_right hi (Nat.two_pow_pos (52 - s.log2))
    rw [e52] at lo'
    rw [Nat.pow_succ, Nat.mul_assoc, Nat.mul_comm 2, ← Nat.mul_assoc, e52] at hi'
    unfold downR
    have d1 : ((874 + s.log2) * 2 ^ 52 + (s * 2 ^ (52 - s.log2) - 2 ^ 52)) / 2 ^ 52 = 874 + s.log2 := by omega
    have d2 : ((874 + s.log2) * 2 ^ 52 + (s * 2 ^ (52 - s.log2) - 2 ^ 52)) % 2 ^ 52 = s * 2 ^ (52 - s.log2) - 2 ^ 52 := by omega
    rw [d1, d2, if_neg (by omega), if_neg (by omega), Nat.sub_add_cancel lo']
    have e3 : 926 - (874 + s.log2) = 52 - s.log2 := by omega
    rw [e3, Nat.mul_mod_left, Nat.mul_div_cancel _ (Nat.two_pow_pos _), if_pos ⟨by omega, by omega, rfl⟩]
  · rw [if_neg h1]
    obtain ⟨q, t, ht, rfl⟩ : ∃ q t, t < 2 ^ 23 ∧ s = (q + 1) * 2 ^ 23 + t := by
      rcases rung_cases single s with h2 | ⟨q, t, h3, h4⟩
      · rw [b32] at h2; exact absurd h2 h1
      · rw [b32] at h3 h4; exact ⟨q, t, h3, h4⟩
    have d1 : ((q + 1) * 2 ^ 23 + t) / 2 ^ 23 = q + 1 := by omega
    have d2 : ((q + 1) * 2 ^ 23 + t) % 2 ^ 23 = t := by omega
    rw [d1, d2]
    have hq : q ≤ 253 := qB q t h
    clear d1 d2 h0 h1 h
    unfold downR
    have e1 : ((q + 1 + 896) * 2 ^ 52 + t * 2 ^ 29) / 2 ^ 52 = q + 897 := by omega
    have e2 : ((q + 1 + 896) * 2 ^ 52 + t * 2 ^ 29) % 2 ^ 52 = t * 2 ^ 29 := by omega
    have e3 : ((q + 1 + 896) * 2 ^ 52 + t * 2 ^ 29) % 2 ^ 29 = 0 := by omega
    rw [e1, e2, e3, if_neg (by omega), if_pos ⟨by omega, by omega, rfl⟩, fB]

theorem down_val {r s : Nat} (h : downR r = some s) : valR double r = valR single s * 2 ^ k925 ∧ s < single.infRung := by
  unfold downR at h
  split at h
  · cases h; rename_i h0; subst h0; exact ⟨zG _, by decide⟩
  split at h
  · rename_i h0 h1
    obtain ⟨a, b, c⟩ := h1
    cases h
    obtain ⟨q, t, hq, ht, hr⟩ := rB r a b c
    clear a b c h0
    subst hr
    have e1 : (((q + 897) * 2 ^ 52 + t * 2 ^ 29) / 2 ^ 52 - 896) = q + 1 := by omega
    have e2 : ((q + 897) * 2 ^ 52 + t * 2 ^ 29) % 2 ^ 52 / 2 ^ 29 = t := by omega
    rw [e1, e2]
    have ev := @valR_high double (q + 896) (t * 2 ^ 29) (by rw [b64]; exact tB ht)
    have ev' := @valR_high single q t (by rw [b32]; exact ht)
    rw [b64] at ev
    rw [b32] at ev'
    have ea : q + 896 + 1 = q + 897 := by omega
    rw [ea] at ev
    rw [ev, ev']
    refine ⟨?_, by rw [i32]; exact nB hq ht⟩
    rw [eB, Nat.mul_assoc, ← Nat.pow_add, Nat.mul_assoc, ← Nat.pow_add, e9]
  split at h
  · rename_i h0 h1 h2
    obtain ⟨a, b, c⟩ := h2
    cases h
    obtain ⟨e, t, he, ht, hr⟩ : ∃ e t, e ≤ 22 ∧ t < 2 ^ 52 ∧ r = (e + 874) * 2 ^ 52 + t := ⟨r / 2 ^ 52 - 874, r % 2 ^ 52, by omega, by omega, by omega⟩
    subst hr
    have e1 : ((e + 874) * 2 ^ 52 + t) / 2 ^ 52 = e + 874 := by omega
    have e2 : ((e + 874) * 2 ^ 52 + t) % 2 ^ 52 = t := by omega
    rw [e1, e2] at c ⊢
    have e3 : 926 - (e + 874) = 52 - e := by omega
    rw [e3] at c ⊢
    have hd := Nat.div_add_mod (t + 2 ^ 52) (2 ^ (52 - e))
    rw [c, Nat.add_zero] at hd
    generalize (t + 2 ^ 52) / 2 ^ (52 - e) = k at hd ⊢
    have hk : k < 2 ^ 23 := kB he ht hd
    have ev := @valR_high double (e + 873) t (by rw [b64]; exact ht)
    rw [b64] at ev
    have ea : e + 873 + 1 = e + 874 := by omega
    rw [ea] at ev
    rw [ev, valR_low (f := single) (by rw [b32]; exact hk)]
    refine ⟨?_, by rw [i32]; exact sB hk⟩
    have e9 : 52 - e + (e + 873) = k925 := by rw [k925_eq]; clear ev hd h1 h0 ea e1 e2 e3 a b c; omega
    rw [Nat.add_comm (2 ^ 52) t, ← hd, Nat.mul_comm (2 ^ (52 - e)), Nat.mul_assoc, ← Nat.pow_add, e9]
  · cases h

theorem down_none {r s : Nat} (h : downR r = none) (hs : s < single.infRung) : valR double r ≠ valR single s * 2 ^ k925 := by
  intro e
  have : r = upR s := valR_inj (e.trans (up_val hs).1.symm)
  rw [this, down_up hs] at h
  cases h
theorem up_down {r s : Nat} (h : downR r = some s) : upR s = r :=
  valR_inj (((up_val (down_val h).2).1).trans (down_val h).1.symm)
end Go.Proofs.YtmaaacaifpgpaaaGreatDoor
