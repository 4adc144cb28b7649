
/- Another number, other digits. -/
import Derived.Test.YtlhfdklfkfodkabDoorMva
import Derived.Test.YtlhfdklfkfodkabDoorVc
set_option maxRecDepth 100000
namespace Go.Proofs.YtlhfdklfkfodkabDoor.Ff

def XQ (e : Int) (x : Nat) : Nat := qw (vv x (ph (iE e)) (pl (iE e))) (2 ^ (64 + sE e))
theorem usc_xq {m : Nat} {e : Int} (h : Sh m e) (hk : ¬ (m = 2 ^ 63 ∧ -1085 < e)) : shP m e = pE e ∧ shI m e = iE e ∧ shS m e = sE e ∧ shMin m e = m - 2 ^ (shZ e - 1) ∧ (∀ x, 2 ^ 62 ≤ x → x < 2 ^ 64 → usc x (ph (iE e)) (pl (iE e)) (sE e) = XQ e x) := by
  have hp : shP m e = pE e := by unfold shP pE; rw [if_neg hk]
  have hi : shI m e = iE e := by unfold shI iE; rw [hp]
  obtain ⟨_, b2, _, _, _, _, _⟩ := sh_bounds h
  rw [hi] at b2
  obtain ⟨c1, c2, c3⟩ := ph_ok b2
  refine ⟨hp, hi, by unfold shS sE; rw [hp], by unfold shMin; rw [if_neg hk], fun x h1 h2 => ?_⟩
  refine usc_eq h2 c2 c3 ?_
  have := Nat.mul_le_mul h1 c1
  omega
theorem z_bounds {e : Int} (h0 : -1137 ≤ e) : 11 ≤ shZ e ∧ shZ e ≤ 63 := by unfold shZ; split <;> omega
theorem w_at {e : Int} (h0 : -1137 ≤ e) (h1 : e ≤ 960) (hn : e ≠ -11) : 2 ^ (66 + sE e) + 2 ^ shZ e * pl (iE e) / 2 ^ 64 + 3 ≤ 2 ^ shZ e * ph (iE e) := by
  have h := List.all_eq_true.1 w_all (e + 1137).toNat (List.mem_range.2 (by omega))
  rw [show (((e + 1137).toNat : Nat) : Int) - 1137 = e from by omega] at h
  unfold wOK at h
  rw [Bool.or_eq_true] at h
  rcases h with h | h
  · exact Nat.le_of_ble_eq_true h
  · exact absurd (by simpa using h) hn
theorem a_at {e : Int} (h0 : -1137 ≤ e) (h1 : e ≤ 959) : decS (2 ^ 64 - 2 ^ shZ e) e < decS (2 ^ 63) (e + 1) := by
  have h := List.all_eq_true.1 a_all (e + 1137).toNat (List.mem_range.2 (by omega))
  rw [show (((e + 1137).toNat : Nat) : Int) - 1137 = e from by omega] at h
  exact Nat.le_of_ble_eq_true h
theorem b_at {e : Int} (h0 : -1136 ≤ e) (h1 : e ≤ 960) : decS (2 ^ 63) e < decS (2 ^ 63 + 2 ^ shZ e) e := by
  have h := List.all_eq_true.1 b_all (e + 1136).toNat (List.mem_range.2 (by omega))
  rw [show (((e + 1136).toNat : Nat) : Int) - 1136 = e from by omega] at h
  exact Nat.le_of_ble_eq_true h
theorem pow_half {z : Nat} (hz : 1 ≤ z) : 2 ^ z = 2 ^ (z - 1) + 2 ^ (z - 1) := by
  obtain ⟨k, rfl⟩ : ∃ k, z = k + 1 := ⟨z - 1, by omega⟩
  rw [Nat.pow_succ, show k + 1 - 1 = k from by omega]
  omega
theorem e11 : sE (-11) = 8 ∧ ph (iE (-11)) = 2 ^ 63 ∧ pl (iE (-11)) = 0 ∧ shZ (-11) = 11 := by
  refine ⟨by kernel_rfl, by kernel_rfl, by kernel_rfl, by kernel_rfl⟩

/-- The digits of a number lie between its bounds. -/
theorem step_in {m : Nat} {e : Int} (h : Sh m e) (hk : ¬ (m = 2 ^ 63 ∧ -1085 < e)) :
    ∃ D, (XQ e (m - 2 ^ (shZ e - 1)) + m / 2 ^ shZ e % 2 + 3) / 4 ≤ D ∧ D ≤ (XQ e (m + 2 ^ (shZ e - 1)) - m / 2 ^ shZ e % 2) / 4 ∧ decS m e = D * 10 ^ (400 - pE e).toNat := by
  obtain ⟨hp, hi, hs, hmin, hx⟩ := usc_xq h hk
  obtain ⟨_, b2, _, _, _, b6, b7⟩ := sh_bounds h
  rw [hi] at b2
  rw [hp] at b6 b7
  obtain ⟨c1, c2, c3⟩ := ph_ok b2
  have zb := z_bounds h.e0
  have hmx : m + 2 ^ (shZ e - 1) < 2 ^ 64 := mod_z h.z zb.2 h.hi (by omega)
  have hp62 : 2 ^ (shZ e - 1) ≤ 2 ^ 62 := Nat.pow_le_pow_right (by omega) (by omega)
  have hlo := h.lo
  have hhi := h.hi
  have hph := pow_half (z := shZ e) (by omega)
  unfold decS shortN
  rw [hp, hi, hs, hmin, show shMax m e = m + 2 ^ (shZ e - 1) from rfl]
  have hd : 2 ^ (shZ e - 1) ≤ m := by omega
  have hmid := vv_mid (m := m) (d := 2 ^ (shZ e - 1)) (hi := ph (iE e)) (lo := pl (iE e)) hd c3 (by omega)
  have hwid := vv_wide (x := m - 2 ^ (shZ e - 1)) (d := 2 ^ shZ e) (hi := ph (iE e)) (lo := pl (iE e)) c3 (by omega)
  rw [show m - 2 ^ (shZ e - 1) + 2 ^ shZ e = m + 2 ^ (shZ e - 1) from by omega] at hwid
  have x1 : 2 ^ 62 ≤ m - 2 ^ (shZ e - 1) := by omega
  have x2 : m - 2 ^ (shZ e - 1) < 2 ^ 64 := Nat.lt_of_le_of_lt (Nat.sub_le _ _) hhi
  have x3 : 2 ^ 62 ≤ m + 2 ^ (shZ e - 1) := Nat.le_trans (by omega) (Nat.le_add_right m _)
  rw [hx m (by omega) hhi, hx _ x1 x2, hx _ x3 hmx]
  have hodd : m / 2 ^ shZ e % 2 ≤ 1 := by omega
  have hW : 2 ≤ 2 ^ (64 + sE e) := by
    have : 2 ^ 1 ≤ 2 ^ (64 + sE e) := Nat.pow_le_pow_right (by omega) (by omega)
    omega
  have e66 : 2 ^ (66 + sE e) = 4 * 2 ^ (64 + sE e) := by
    rw [show 66 + sE e = (64 + sE e) + 2 from by omega, Nat.pow_add]; omega
  by_cases he : e = -11
  · subst he
    obtain ⟨q1, q2, q3, q4⟩ := e11
    refine fin_in hW hodd hmid.1 hmid.2 ?_ ?_ (by omega)
    · rw [q1, q2, q3, q4] at *
      unfold vv
      omega
    · intro ho
      right
      have hz := h.z
      rw [q1, q2, q3, q4] at *
      unfold vv
      rw [Nat.mul_zero, Nat.zero_div, Nat.sub_zero]
      have r0 : (m - 2 ^ (11 - 1)) * 2 ^ 63 % 2 ^ (64 + 8) = 0 := by omega
      rw [qw_neg (by omega)]
      omega
  · have hw := w_at h.e0 h.e1 he
    rw [e66] at hw
    have hfin : vv (m - 2 ^ (shZ e - 1)) (ph (iE e)) (pl (iE e)) + 4 * 2 ^ (64 + sE e) + 2 ≤ vv (m + 2 ^ (shZ e - 1)) (ph (iE e)) (pl (iE e)) := by
      generalize vv (m - 2 ^ (shZ e - 1)) (ph (iE e)) (pl (iE e)) = A at *
      generalize vv (m + 2 ^ (shZ e - 1)) (ph (iE e)) (pl (iE e)) = B at *
      generalize 2 ^ shZ e * ph (iE e) = a at *
      generalize 2 ^ shZ e * pl (iE e) / 2 ^ 64 = b at *
      generalize 2 ^ (64 + sE e) = W at *
      omega
    exact fin_in hW hodd hmid.1 hmid.2 (by omega) (fun _ => .inl hfin) (by omega)

theorem next_lt {m : Nat} {e : Int} (h : Sh m e) (h' : Sh (m + 2 ^ shZ e) e) (hk : ¬ (m = 2 ^ 63 ∧ -1085 < e)) : decS m e < decS (m + 2 ^ shZ e) e := by
  have hk' : ¬ (m + 2 ^ shZ e = 2 ^ 63 ∧ -1085 < e) := by
    have := h.lo
    have hz : 0 < 2 ^ shZ e := Nat.two_pow_pos _
    omega
  obtain ⟨D, d1, d2, d3⟩ := step_in h hk
  obtain ⟨D', f1, f2, f3⟩ := step_in h' hk'
  have zb := z_bounds h.e0
  have hph := pow_half (z := shZ e) (by omega)
  have hz : 0 < 2 ^ shZ e := Nat.two_pow_pos _
  rw [show m + 2 ^ shZ e - 2 ^ (shZ e - 1) = m + 2 ^ (shZ e - 1) from by omega, Nat.add_div_right _ hz] at f1
  have hmx : m + 2 ^ (shZ e - 1) < 2 ^ 64 := mod_z h.z zb.2 h.hi (by omega)
  have hlo := h.lo
  obtain ⟨hp, hi, hs, hmin, hx⟩ := usc_xq h hk
  obtain ⟨_, b2, _, _, b5, _, _⟩ := sh_bounds h
  rw [hi] at b2
  rw [hs] at b5
  obtain ⟨c1, c2, c3⟩ := ph_ok b2
  have x3 : 2 ^ 62 ≤ m + 2 ^ (shZ e - 1) := by omega
  have U := usc_lo (lo := pl (iE e)) x3 hmx c1 c2 b5
  rw [hx _ x3 hmx] at U
  have hDD : D < D' := by
    generalize XQ e (m + 2 ^ (shZ e - 1)) = X at *
    generalize m / 2 ^ shZ e = k at *
    clear hph hmx x3 c1 c2 c3 hlo
    omega
  rw [d3, f3]
  exact (Nat.mul_lt_mul_right (Nat.pow_pos (by omega))).2 hDD
theorem Sh.le {m m' : Nat} {e : Int} (h : Sh m e) (h' : Sh m' e) (hl : m < m') : ∃ j, m' = m + (j + 1) * 2 ^ shZ e := by
  have hz : 0 < 2 ^ shZ e := Nat.two_pow_pos _
  have z1 := h.z
  have z2 := h'.z
  obtain ⟨a, rfl⟩ := Nat.dvd_of_mod_eq_zero z1
  obtain ⟨b, rfl⟩ := Nat.dvd_of_mod_eq_zero z2
  have hab : a < b := Nat.lt_of_mul_lt_mul_left hl
  refine ⟨b - a - 1, ?_⟩
  rw [show b - a - 1 + 1 = b - a from by omega, Nat.mul_comm (b - a), ← Nat.mul_add]
  congr 1
  omega
theorem Sh.plus {m : Nat} {e : Int} (h : Sh m e) (j : Nat) (hj : m + j * 2 ^ shZ e < 2 ^ 64) : Sh (m + j * 2 ^ shZ e) e :=
  ⟨Nat.le_trans h.lo (Nat.le_add_right _ _), hj, h.e0, h.e1, by rw [Nat.add_mul_mod_self_right]; exact h.z⟩
theorem far_lt {m : Nat} {e : Int} (h : Sh m e) (hk : ¬ (m = 2 ^ 63 ∧ -1085 < e)) : ∀ j, m + (j + 1) * 2 ^ shZ e < 2 ^ 64 → decS m e < decS (m + (j + 1) * 2 ^ shZ e) e
  | 0, hj => by
    rw [Nat.zero_add, Nat.one_mul] at hj ⊢
    refine next_lt h ?_ hk
    have := h.plus 1 (by rw [Nat.one_mul]; exact hj)
    rwa [Nat.one_mul] at this
  | j + 1, hj => by
    have e1 : m + (j + 1 + 1) * 2 ^ shZ e = m + (j + 1) * 2 ^ shZ e + 2 ^ shZ e := by rw [Nat.succ_mul (j + 1)]; omega
    rw [e1] at hj ⊢
    have hz : 0 < 2 ^ shZ e := Nat.two_pow_pos _
    have hj1 : m + (j + 1) * 2 ^ shZ e < 2 ^ 64 := by
      generalize (j + 1) * 2 ^ shZ e = t at *
      omega
    have h1 := far_lt h hk j hj1
    have s1 := h.plus (j + 1) hj1
    have s2 := h.plus (j + 1 + 1) (by rw [e1]; exact hj)
    rw [e1] at s2
    refine Nat.lt_trans h1 (next_lt s1 s2 ?_)
    have := h.lo
    have h3 : 1 * 2 ^ shZ e ≤ (j + 1) * 2 ^ shZ e := Nat.mul_le_mul_right _ (by omega)
    generalize (j + 1) * 2 ^ shZ e = t at *
    omega
theorem same_lt {m m' : Nat} {e : Int} (h : Sh m e) (h' : Sh m' e) (hl : m < m') : decS m e < decS m' e := by
  by_cases hk : m = 2 ^ 63 ∧ -1085 < e
  · obtain ⟨rfl, he⟩ := hk
    have hb := b_at (e := e) (by omega) h.e1
    obtain ⟨j, rfl⟩ := h.le h' hl
    rcases Nat.eq_zero_or_pos j with h0 | h0
    · subst h0
      rw [Nat.zero_add, Nat.one_mul]; exact hb
    · obtain ⟨i, rfl⟩ : ∃ i, j = i + 1 := ⟨j - 1, by omega⟩
      have e1 : 2 ^ 63 + (i + 1 + 1) * 2 ^ shZ e = 2 ^ 63 + 2 ^ shZ e + (i + 1) * 2 ^ shZ e := by rw [Nat.succ_mul (i + 1)]; omega
      have hhi := h'.hi
      rw [e1] at hhi ⊢
      have s1 := h.plus 1 (by
        rw [Nat.one_mul]
        generalize (i + 1) * 2 ^ shZ e = t at *
        omega)
      rw [Nat.one_mul] at s1
      refine Nat.lt_trans hb (far_lt s1 ?_ i hhi)
      have hz : 0 < 2 ^ shZ e := Nat.two_pow_pos _
      omega
  · obtain ⟨j, rfl⟩ := h.le h' hl
    exact far_lt h hk j h'.hi
theorem same_le {m m' : Nat} {e : Int} (h : Sh m e) (h' : Sh m' e) (hl : m ≤ m') : decS m e ≤ decS m' e := by
  rcases Nat.eq_or_lt_of_le hl with e1 | e1
  · subst e1; exact Nat.le_refl _
  · exact Nat.le_of_lt (same_lt h h' e1)
theorem sh_low {e : Int} (h0 : -1137 ≤ e) (h1 : e ≤ 960) : Sh (2 ^ 63) e := by
  refine ⟨by omega, by omega, h0, h1, ?_⟩
  have zb := z_bounds h0
  exact Nat.mod_eq_zero_of_dvd (Nat.pow_dvd_pow 2 zb.2)
theorem sh_top {e : Int} (h0 : -1137 ≤ e) (h1 : e ≤ 960) : Sh (2 ^ 64 - 2 ^ shZ e) e := by
  have zb := z_bounds h0
  have h63 : 2 ^ shZ e ≤ 2 ^ 63 := Nat.pow_le_pow_right (by omega) zb.2
  have hz : 0 < 2 ^ shZ e := Nat.two_pow_pos _
  refine ⟨by omega, by omega, h0, h1, ?_⟩
  exact Nat.mod_eq_zero_of_dvd (Nat.dvd_sub (Nat.pow_dvd_pow 2 (by omega)) (Nat.dvd_refl _))
theorem le_top {m : Nat} {e : Int} (h : Sh m e) : m ≤ 2 ^ 64 - 2 ^ shZ e := by
  have zb := z_bounds h.e0
  have hz : 0 < 2 ^ shZ e := Nat.two_pow_pos _
  obtain ⟨a, ha⟩ := Nat.dvd_of_mod_eq_zero h.z
  obtain ⟨b, hb⟩ := Nat.pow_dvd_pow 2 (show shZ e ≤ 64 by omega)
  have hhi := h.hi
  rw [ha, hb] at hhi
  have hab : a < b := Nat.lt_of_mul_lt_mul_left hhi
  have := Nat.mul_le_mul_left (2 ^ shZ e) (Nat.succ_le_of_lt hab)
  rw [Nat.mul_succ, ← ha, ← hb] at this
  omega
theorem climb_lt {m : Nat} {e : Int} (h : Sh m e) : ∀ k : Nat, e + (k : Int) + 1 ≤ 960 → decS m e < decS (2 ^ 63) (e + (k : Int) + 1)
  | 0, hk => by
    have h0 := h.e0
    have e0 : e + ((0 : Nat) : Int) + 1 = e + 1 := by omega
    rw [e0] at hk ⊢
    exact Nat.lt_of_le_of_lt (same_le h (sh_top h0 (by omega)) (le_top h)) (a_at h0 (by omega))
  | k + 1, hk => by
    have h0 := h.e0
    have e1 : e + ((k + 1 : Nat) : Int) + 1 = (e + (k : Int) + 1) + 1 := by omega
    rw [e1] at hk ⊢
    have i1 := climb_lt h k (by omega)
    refine Nat.lt_trans (Nat.lt_of_lt_of_le i1 (same_le (sh_low (by omega) (by omega)) (sh_top (by omega) (by omega)) ?_)) (a_at (by omega) (by omega))
    exact le_top (sh_low (by omega) (by omega))
theorem cross_lt {m m' : Nat} {e e' : Int} (h : Sh m e) (h' : Sh m' e') (he : e < e') : decS m e < decS m' e' := by
  have h1 := climb_lt h (e' - e - 1).toNat (by have := h'.e1; omega)
  rw [show e + (((e' - e - 1).toNat : Nat) : Int) + 1 = e' from by omega] at h1
  exact Nat.lt_of_lt_of_le h1 (same_le (sh_low h'.e0 h'.e1) h' h'.lo)
/-- Another number, other digits. -/
theorem decS_inj {m m' : Nat} {e e' : Int} (h : Sh m e) (h' : Sh m' e') (hd : decS m e = decS m' e') : m = m' ∧ e = e' := by
  rcases Int.lt_trichotomy e e' with h1 | h1 | h1
  · have := cross_lt h h' h1; omega
  · subst h1
    rcases Nat.lt_trichotomy m m' with h2 | h2 | h2
    · have := same_lt h h' h2; omega
    · exact ⟨h2, rfl⟩
    · have := same_lt h' h h2; omega
  · have := cross_lt h' h h1; omega
end Go.Proofs.YtlhfdklfkfodkabDoor.Ff
