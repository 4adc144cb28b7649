/- The scaling and the choice of digits keep the order of numbers. -/
import Derived.Test.YtlhfdklfkfodkabDoorUf
set_option maxRecDepth 100000
namespace Go.Proofs.YtlhfdklfkfodkabDoor.Ff

theorem or_one (n : Nat) : n ||| 1 = n / 2 * 2 + 1 := by
  have h1 : (n ||| 1) / 2 = n / 2 := by rw [Nat.or_div_two]; simp
  have h2 : (n ||| 1) % 2 = 1 := Nat.or_mod_two_eq_one.2 (.inr rfl)
  omega
/-- Down by W, with a last bit that tells whether more than one was left. -/
def qw (V W : Nat) : Nat := V / W ||| (if 1 < V % W then 1 else 0)
theorem qw_pos {V W : Nat} (h : 1 < V % W) : qw V W = V / W / 2 * 2 + 1 := by unfold qw; rw [if_pos h, or_one]
theorem qw_neg {V W : Nat} (h : ¬ 1 < V % W) : qw V W = V / W := by unfold qw; rw [if_neg h, Nat.or_zero]
theorem qw_bounds (V W : Nat) : V / W ≤ qw V W ∧ qw V W ≤ V / W / 2 * 2 + 1 := by
  by_cases h : 1 < V % W
  · rw [qw_pos h]; omega
  · rw [qw_neg h]; omega
theorem qw_mono {V V' W : Nat} (h : V ≤ V') : qw V W ≤ qw V' W := by
  have hq : V / W ≤ V' / W := Nat.div_le_div_right h
  have b1 := qw_bounds V W
  have b2 := qw_bounds V' W
  rcases Nat.lt_or_ge (V / W) (V' / W) with h1 | h1
  · omega
  · have e : V / W = V' / W := by omega
    have d1 := Nat.div_add_mod V W
    have d2 := Nat.div_add_mod V' W
    rw [e] at d1
    by_cases h2 : 1 < V % W
    · have h3 : 1 < V' % W := by omega
      rw [qw_pos h2, qw_pos h3, e]
      exact Nat.le_refl _
    · rw [qw_neg h2]; omega
theorem qw_add4 (V W : Nat) (hW : 0 < W) : qw (V + 4 * W) W = qw V W + 4 := by
  have h1 : (V + 4 * W) / W = V / W + 4 := Nat.add_mul_div_right _ _ hW
  have h2 : (V + 4 * W) % W = V % W := Nat.add_mul_mod_self_right _ _ _
  by_cases h : 1 < V % W
  · rw [qw_pos h, qw_pos (by rw [h2]; exact h), h1]; omega
  · rw [qw_neg h, qw_neg (by rw [h2]; exact h), h1]
theorem qw_more {V V' W : Nat} (hW : 2 ≤ W) (h4 : qw V W % 4 = 0) (h : V + 4 * W + 2 ≤ V') : qw V W + 5 ≤ qw V' W := by
  have hn : ¬ 1 < V % W := by
    intro h1
    rw [qw_pos h1] at h4
    omega
  have d1 := Nat.div_add_mod V W
  have hq : (V + 4 * W + 2) / W ≤ V' / W := Nat.div_le_div_right h
  have hm := qw_mono (W := W) h
  have e4 := qw_neg hn
  rw [e4] at h4 ⊢
  have hle : V / W + 4 ≤ (V + 4 * W + 2) / W := by
    rw [← Nat.add_mul_div_right V 4 (by omega : 0 < W)]
    exact Nat.div_le_div_right (by omega)
  by_cases hr : 1 < (V + 4 * W + 2) % W
  · rw [qw_pos hr] at hm
    omega
  · have d2 := Nat.div_add_mod (V + 4 * W + 2) W
    have b := (qw_bounds V' W).1
    rcases Nat.eq_or_lt_of_le hle with e | e
    · rw [← e, Nat.mul_add] at d2
      generalize W * (V / W) = t at *
      omega
    · omega

/-- x times the 128 bits, 64 places down. -/
def vv (x hi lo : Nat) : Nat := x * hi - x * lo / 2 ^ 64
theorem pred_div {h t : Nat} (hz : h % t ≠ 0) : (h - 1) / t = h / t := by
  have d := Nat.div_add_mod h t
  rcases Nat.eq_zero_or_pos t with h0 | h0
  · subst h0; simp
  · refine (Nat.div_eq_of_lt_le ?_ ?_)
    · rw [Nat.mul_comm]; omega
    · have := Nat.mod_lt h h0
      rw [Nat.add_mul, Nat.one_mul, Nat.mul_comm]
      omega
theorem m2_lt {x lo : Nat} (hx : x < 2 ^ 64) (hl : lo < 2 ^ 64) : x * lo / 2 ^ 64 + 2 ≤ 2 ^ 64 := by
  have h1 : x * lo ≤ (2 ^ 64 - 1) * (2 ^ 64 - 1) := Nat.mul_le_mul (by omega) (by omega)
  have h2 : x * lo / 2 ^ 64 < 2 ^ 64 - 1 := (Nat.div_lt_iff_lt_mul (by omega)).2 (by omega)
  omega
theorem usc_eq {x hi lo s : Nat} (hx : x < 2 ^ 64) (hh : hi < 2 ^ 64) (hl : lo < 2 ^ 64) (h0 : 2 ^ 64 ≤ x * hi) : usc x hi lo s = qw (vv x hi lo) (2 ^ (64 + s)) := by
  have hm2 := m2_lt hx hl
  have hP : x * hi < 2 ^ 64 * 2 ^ 64 := Nat.mul_lt_mul'' hx hh
  unfold usc vv qw
  dsimp only
  generalize x * hi = P at *
  generalize x * lo / 2 ^ 64 = m2 at *
  rw [Nat.pow_add, ← Nat.div_div_eq_div_mul, Nat.mod_mul]
  have ht : 0 < 2 ^ s := Nat.two_pow_pos s
  generalize 2 ^ s = t at *
  have hh64 : P / 2 ^ 64 < 2 ^ 64 := (Nat.div_lt_iff_lt_mul (by omega)).2 hP
  have hh1 : 1 ≤ P / 2 ^ 64 := by omega
  by_cases hb : P % 2 ^ 64 < m2
  · have e1 : (P - m2) / 2 ^ 64 = P / 2 ^ 64 - 1 := by omega
    have e2 : (P - m2) % 2 ^ 64 = P % 2 ^ 64 + 2 ^ 64 - m2 := by omega
    rw [e1, e2, if_pos hb]
    have c1 : 1 < P % 2 ^ 64 + 2 ^ 64 - m2 + 2 ^ 64 * ((P / 2 ^ 64 - 1) % t) := by
      generalize (P / 2 ^ 64 - 1) % t = k
      omega
    rw [if_pos c1]
    by_cases hz : P / 2 ^ 64 % t = 0
    · rw [if_neg (by simpa using hz)]
      have e4 : (P % 2 ^ 64 + 2 ^ 64 - m2) % 2 ^ 64 = P % 2 ^ 64 + 2 ^ 64 - m2 := by omega
      have e3 : (P / 2 ^ 64 + 2 ^ 64 - 1) % 2 ^ 64 = P / 2 ^ 64 - 1 := by
        clear hP h0 e1 e2 c1 hz hb e4
        omega
      have c2 : 1 < P % 2 ^ 64 + 2 ^ 64 - m2 := by omega
      rw [e3, e4, if_pos c2]
    · rw [if_pos hz, pred_div hz]
  · have e1 : (P - m2) / 2 ^ 64 = P / 2 ^ 64 := by omega
    have e2 : (P - m2) % 2 ^ 64 = P % 2 ^ 64 - m2 := by omega
    rw [e1, e2, if_neg hb]
    by_cases hz : P / 2 ^ 64 % t = 0
    · rw [if_neg (by simpa using hz), hz]
      simp only [Nat.mul_zero, Nat.add_zero]
      have e3 : (P / 2 ^ 64 + 2 ^ 64 - 0) % 2 ^ 64 = P / 2 ^ 64 := by omega
      have e4 : (P % 2 ^ 64 + 2 ^ 64 - m2) % 2 ^ 64 = P % 2 ^ 64 - m2 := by omega
      rw [e3, e4]
    · rw [if_pos hz]
      have hz1 : 1 ≤ P / 2 ^ 64 % t := Nat.one_le_iff_ne_zero.2 hz
      rw [if_pos (by
        generalize P / 2 ^ 64 % t = k at *
        omega)]

theorem vv_add (x hi lo : Nat) (hl : lo < 2 ^ 64) (hh : 1 ≤ hi) : vv x hi lo + x * lo / 2 ^ 64 = x * hi := by
  have h1 : x * lo / 2 ^ 64 ≤ x := by
    have : x * lo ≤ x * 2 ^ 64 := Nat.mul_le_mul_left _ (by omega)
    omega
  have h2 : x * 1 ≤ x * hi := Nat.mul_le_mul_left _ hh
  unfold vv
  omega
theorem vv_wide {x d hi lo : Nat} (hl : lo < 2 ^ 64) (hh : 1 ≤ hi) : vv x hi lo + d * hi ≤ vv (x + d) hi lo + d * lo / 2 ^ 64 + 1 := by
  have a1 := vv_add x hi lo hl hh
  have a2 := vv_add (x + d) hi lo hl hh
  rw [Nat.add_mul, Nat.add_mul] at a2
  generalize x * lo = a at *
  generalize d * lo = b at *
  generalize x * hi = c at *
  generalize d * hi = e at *
  omega
theorem vv_mid {m d hi lo : Nat} (hd : d ≤ m) (hl : lo < 2 ^ 64) (hh : 1 ≤ hi) : vv (m - d) hi lo + vv (m + d) hi lo ≤ 2 * vv m hi lo + 1 ∧ 2 * vv m hi lo ≤ vv (m - d) hi lo + vv (m + d) hi lo + 1 := by
  obtain ⟨k, rfl⟩ : ∃ k, m = k + d := ⟨m - d, by omega⟩
  rw [show k + d - d = k from by omega]
  have a1 := vv_add k hi lo hl hh
  have a2 := vv_add (k + d) hi lo hl hh
  have a3 := vv_add (k + d + d) hi lo hl hh
  rw [Nat.add_mul, Nat.add_mul] at a2
  rw [Nat.add_mul, Nat.add_mul, Nat.add_mul, Nat.add_mul] at a3
  generalize k * lo = a at *
  generalize d * lo = b at *
  generalize k * hi = c at *
  generalize d * hi = e at *
  omega
end Go.Proofs.YtlhfdklfkfodkabDoor.Ff

set_option maxRecDepth 100000
namespace Go.Proofs.YtlhfdklfkfodkabDoor.Ff

theorem le_qw {k V W : Nat} (hW : 0 < W) (h : k * W ≤ V) : k ≤ qw V W :=
  Nat.le_trans ((Nat.le_div_iff_mul_le hW).2 h) (qw_bounds V W).1
theorem qw_le_odd {k V W : Nat} (hW : 0 < W) (h : V < (2 * k + 2) * W) : qw V W ≤ 2 * k + 1 := by
  have h1 : V / W < 2 * k + 2 := (Nat.div_lt_iff_lt_mul hW).2 h
  have := (qw_bounds V W).2
  omega
theorem of_le_qw {k V W : Nat} (hW : 0 < W) (h : 2 * k ≤ qw V W) : 2 * k * W ≤ V := by
  have h1 := (qw_bounds V W).2
  exact (Nat.le_div_iff_mul_le hW).1 (by omega)
theorem of_qw_le {k V W : Nat} (hW : 0 < W) (h : qw V W ≤ k) : V < (k + 1) * W := by
  have h1 := (qw_bounds V W).1
  exact (Nat.div_lt_iff_lt_mul hW).1 (by omega)

theorem mid_lo {A B C W a b odd : Nat} (hW : 0 < W) (ho : odd ≤ 1) (ha : (qw A W + odd + 3) / 4 = a) (hb : (qw B W - odd) / 4 = b) (hab : a < b) (h1 : A + B ≤ 2 * C + 1) : 4 * a ≤ qw C W := by
  refine le_qw hW ?_
  have b1 : 2 * (2 * b) * W ≤ B := of_le_qw hW (by omega)
  rcases Nat.eq_zero_or_pos a with h0 | h0
  · subst h0; omega
  · have a1 : 2 * (2 * (a - 1)) * W ≤ A := of_le_qw hW (by omega)
    have m1 : (a - 1 + 2) * W ≤ (b + 0) * W + W * 0 + 0 := by
      have : (a + 1) * W ≤ b * W := Nat.mul_le_mul_right _ hab
      rw [show a - 1 + 2 = a + 1 from by omega]
      simpa using this
    have e1 : 2 * (2 * b) * W = 4 * (b * W) := by rw [← Nat.mul_assoc, Nat.mul_assoc]
    have e2 : 2 * (2 * (a - 1)) * W = 4 * ((a - 1) * W) := by rw [← Nat.mul_assoc, Nat.mul_assoc]
    have e3 : 4 * a * W = 4 * ((a - 1) * W) + 4 * W := by
      rw [Nat.mul_assoc, ← Nat.mul_add]
      congr 1
      rw [← Nat.succ_mul]
      congr 1
      omega
    rw [e3]
    rw [e1] at b1
    rw [e2] at a1
    rw [Nat.add_mul, Nat.add_zero, Nat.mul_zero, Nat.add_zero] at m1
    generalize (a - 1) * W = X at *
    generalize b * W = Y at *
    omega
theorem mid_hi {A B C W a b odd : Nat} (hW : 0 < W) (ho : odd ≤ 1) (ha : (qw A W + odd + 3) / 4 = a) (hb : (qw B W - odd) / 4 = b) (hab : a < b) (h2 : 2 * C ≤ A + B + 1) : qw C W ≤ 4 * b + 1 := by
  have hlt : C < (2 * (2 * b) + 2) * W := by
    have a1 : A < (4 * a + 1) * W := of_qw_le hW (by omega)
    have b1 : B < (4 * b + 4 + 1) * W := of_qw_le hW (by omega)
    have m1 : (a + 1) * W ≤ b * W := Nat.mul_le_mul_right _ hab
    have e1 : (4 * a + 1) * W = 4 * (a * W) + W := by rw [Nat.add_mul, Nat.mul_assoc, Nat.one_mul]
    have e2 : (4 * b + 4 + 1) * W = 4 * (b * W) + 5 * W := by rw [Nat.add_assoc, Nat.add_mul, Nat.mul_assoc]
    have e3 : (2 * (2 * b) + 2) * W = 4 * (b * W) + 2 * W := by rw [Nat.add_mul, ← Nat.mul_assoc, Nat.mul_assoc]
    rw [Nat.add_mul, Nat.one_mul] at m1
    rw [e3]
    rw [e1] at a1
    rw [e2] at b1
    generalize a * W = X at *
    generalize b * W = Y at *
    omega
  have := qw_le_odd hW hlt
  omega

/-- What the chosen digits are worth, in the last place's units. -/
theorem fin_in {A B C W odd : Nat} {p : Int} (hW : 2 ≤ W) (ho : odd ≤ 1) (h1 : A + B ≤ 2 * C + 1) (h2 : 2 * C ≤ A + B + 1) (hw : A + 4 * W ≤ B) (hs : odd = 1 → A + 4 * W + 2 ≤ B ∨ qw A W % 4 ≠ 0) (hp : p ≤ 400) :
    ∃ D, (qw A W + odd + 3) / 4 ≤ D ∧ D ≤ (qw B W - odd) / 4 ∧ (fin (qw C W) (qw A W) (qw B W) odd p).1 * 10 ^ ((fin (qw C W) (qw A W) (qw B W) odd p).2 + 400).toNat = D * 10 ^ (400 - p).toNat := by
  obtain ⟨a, ha⟩ : ∃ a, (qw A W + odd + 3) / 4 = a := ⟨_, rfl⟩
  obtain ⟨b, hb⟩ : ∃ b, (qw B W - odd) / 4 = b := ⟨_, rfl⟩
  unfold fin
  rw [ha, hb]
  by_cases c1 : a ≤ b / 10 * 10
  · rw [if_pos c1]
    refine ⟨b / 10 * 10, c1, by omega, ?_⟩
    dsimp only
    rw [show (-(p - 1) + 400).toNat = (400 - p).toNat + 1 from by omega, Nat.pow_succ, Nat.mul_assoc, Nat.mul_comm (10 ^ _) 10]
  · rw [if_neg c1]
    by_cases c2 : a < b
    · rw [if_pos c2]
      have l := mid_lo (by omega) ho ha hb c2 h1
      have u := mid_hi (by omega) ho ha hb c2 h2
      refine ⟨(qw C W + 1 + qw C W / 4 % 2) / 4, by omega, by omega, ?_⟩
      dsimp only
      rw [show (-p + 400).toNat = (400 - p).toNat from by omega]
    · rw [if_neg c2]
      have m4 := qw_mono (W := W) hw
      rw [qw_add4 A W (by omega)] at m4
      refine ⟨a, Nat.le_refl _, ?_, ?_⟩
      · rcases Nat.lt_or_ge 0 odd with h | h
        · have e : odd = 1 := by omega
          by_cases h4 : qw A W % 4 = 0
          · rcases hs e with h5 | h5
            · have := qw_more hW h4 h5
              omega
            · exact absurd h4 h5
          · omega
        · omega
      · dsimp only
        rw [show (-p + 400).toNat = (400 - p).toNat from by omega]
end Go.Proofs.YtlhfdklfkfodkabDoor.Ff
