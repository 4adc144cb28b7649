
/- What Go's conversions between floats of 24 and 64 bits give. -/
import Derived.Test.YtmaaacaifpgpaaaGreatDoorFn
namespace Go.Proofs.YtmaaacaifpgpaaaGreatDoor
open Ieee

theorem word_rng {f : Format} {s : Bool} {r : Nat} (h : r < f.signWeight) : rng f (f.word s r) = r := by
  unfold rng Format.word
  cases s <;> simp [Nat.mod_eq_of_lt h]
theorem word_sgn {f : Format} {s : Bool} {r : Nat} (h : r < f.signWeight) : sgn f (f.word s r) = s := by
  have hp : 0 < f.signWeight := by omega
  unfold sgn Format.word
  cases s
  · simp [Nat.div_eq_of_lt h]
  · simp [Nat.add_div_left _ hp, Nat.div_eq_of_lt h]
theorem word_self {f : Format} {w : Nat} (h : w < 2 * f.signWeight) : f.word (sgn f w) (rng f w) = w := by
  have hp : 0 < f.signWeight := Nat.two_pow_pos _
  have hd := Nat.div_add_mod w f.signWeight
  have h2 : w / f.signWeight < 2 := (Nat.div_lt_iff_lt_mul hp).2 h
  unfold Format.word sgn rng
  rcases Nat.lt_or_ge (w / f.signWeight) 1 with h1 | h1
  · have h0 : w / f.signWeight = 0 := Nat.lt_one_iff.1 h1
    rw [h0, Nat.mul_zero, Nat.zero_add] at hd
    rw [h0, hd]; rfl
  · have h0 : w / f.signWeight = 1 := Nat.le_antisymm (Nat.le_of_lt_succ h2) h1
    rw [h0, Nat.mul_one] at hd
    rw [h0]; exact hd
theorem inf_lt (f : Format) : f.infRung < f.signWeight := f.infRung_lt

/-- The float of 64 bits with the value of one of 24 (no NaN). -/
def wide (g : Nat) : Nat := double.word (sgn single g) (if rng single g = single.infRung then double.infRung else upR (rng single g))
/-- The float of 24 bits with the value of one of 64 (no NaN), if there is one. -/
def nar (w : Nat) : Option Nat := if rng double w = double.infRung then some (single.word (sgn double w) single.infRung) else (downR (rng double w)).map (single.word (sgn double w))

theorem write_wide {g : Nat} (h : rng single g < single.infRung) : ∃ s m e, single.read g = .number s m e ∧ double.write (.number s m e) = wide g := by
  obtain ⟨m, e, hr, hv⟩ := read_num h
  refine ⟨_, _, _, hr, ?_⟩
  have hne : rng single g ≠ single.infRung := by omega
  unfold wide
  rw [if_neg hne]
  show double.nearest _ m _ = _
  by_cases h0 : rng single g = 0
  · rw [h0, valR_zero] at hv
    have hm : m = 0 := by
      rcases Nat.mul_eq_zero.1 hv with h1 | h1
      · exact h1
      · have := Nat.two_pow_pos e; omega
    subst hm
    rw [h0]; simp [Format.nearest, upR]
  · have hm : 0 < m := by
      rcases Nat.eq_zero_or_pos m with h1 | h1
      · subst h1; rw [Nat.zero_mul] at hv; exact absurd (valR_eq_zero.1 hv.symm) h0
      · exact h1
    refine nearest_exact double _ m _ (upR (rng single g)) (e + k925) 0 hm ?_ ?_ (up_val h).2
    · rw [l64, l32, k925_eq]; omega
    · rw [(up_val h).1, Nat.pow_add, ← Nat.mul_assoc, hv, Nat.pow_zero, Nat.mul_one]

theorem write_down {w s : Nat} (h : rng double w < double.infRung) (hd : downR (rng double w) = some s) : ∃ t m e, double.read w = .number t m e ∧ single.write (.number t m e) = single.word (sgn double w) s := by
  obtain ⟨m, e, hr, hv⟩ := read_num h
  refine ⟨_, _, _, hr, ?_⟩
  show single.nearest _ m _ = _
  by_cases h0 : rng double w = 0
  · rw [h0, valR_zero] at hv
    have hm : m = 0 := by
      rcases Nat.mul_eq_zero.1 hv with h1 | h1
      · exact h1
      · have := Nat.two_pow_pos e; omega
    subst hm
    rw [h0] at hd
    have : s = 0 := by simpa [downR] using hd.symm
    subst this
    simp [Format.nearest]
  · have hm : 0 < m := by
      rcases Nat.eq_zero_or_pos m with h1 | h1
      · subst h1; rw [Nat.zero_mul] at hv; exact absurd (valR_eq_zero.1 hv.symm) h0
      · exact h1
    refine nearest_exact single _ m _ s e k925 hm ?_ ?_ (down_val hd).2
    · rw [l64, l32, k925_eq]; omega
    · rw [hv, (down_val hd).1]

theorem up_lt {g : Nat} (h : rng single g < single.infRung) : upR (rng single g) < double.signWeight := Nat.lt_trans (up_val h).2 (inf_lt _)

theorem wide_lt (g : Nat) (h : ¬ isN single g) : wide g < 2 ^ 64 := by
  unfold wide
  refine double.word_lt _ ?_
  by_cases h1 : rng single g = single.infRung
  · rw [if_pos h1]; exact inf_lt _
  · rw [if_neg h1]; exact up_lt (by unfold isN at h; omega)
theorem wide_rng (g : Nat) (h : ¬ isN single g) : rng double (wide g) = (if rng single g = single.infRung then double.infRung else upR (rng single g)) := by
  unfold wide
  refine word_rng ?_
  by_cases h1 : rng single g = single.infRung
  · rw [if_pos h1]; exact inf_lt _
  · rw [if_neg h1]; exact up_lt (by unfold isN at h; omega)
theorem wide_sgn (g : Nat) (h : ¬ isN single g) : sgn double (wide g) = sgn single g := by
  unfold wide
  refine word_sgn ?_
  by_cases h1 : rng single g = single.infRung
  · rw [if_pos h1]; exact inf_lt _
  · rw [if_neg h1]; exact up_lt (by unfold isN at h; omega)
theorem wide_not_nan (g : Nat) (h : ¬ isN single g) : ¬ isN double (wide g) := by
  unfold isN
  rw [wide_rng g h]
  by_cases h1 : rng single g = single.infRung
  · rw [if_pos h1]; omega
  · rw [if_neg h1]; have := (up_val (s := rng single g) (by unfold isN at h; omega)).2; omega

/-- A float that no one of 24 bits has the value of is none's. -/
theorem nar_none_ne {w g : Nat} (hw : ¬ isN double w) (hn : nar w = none) (hg : ¬ isN single g) : double.order (wide g) w ≠ some .eq := by
  rw [order_num bi64 (wide_not_nan g hg) hw]
  intro h
  have h' := Int.compare_eq_eq.1 (Option.some.inj h)
  have hr : rng double (wide g) = rng double w := by
    unfold sr at h'
    revert h'
    cases sgn double (wide g) <;> cases sgn double w <;> simp only [if_true, if_false, Bool.false_eq_true] <;> omega
  unfold nar at hn
  split at hn
  · cases hn
  · rename_i hi
    rw [Option.map_eq_none_iff] at hn
    rw [wide_rng g hg] at hr
    by_cases h1 : rng single g = single.infRung
    · rw [if_pos h1] at hr; exact hi hr.symm
    · rw [if_neg h1] at hr
      have hs : rng single g < single.infRung := by unfold isN at hg; omega
      rw [← hr, down_up hs] at hn
      cases hn
/-- One that has: widened it is the float. -/
theorem nar_some_wide {w g : Nat} (hlt : w < 2 ^ 64) (hn : nar w = some g) : wide g = w ∧ ¬ isN single g ∧ g < 2 ^ 32 := by
  have hself : double.word (sgn double w) (rng double w) = w := word_self (by rw [s64]; omega)
  unfold nar at hn
  split at hn
  · rename_i hi
    cases hn
    have e1 : rng single (single.word (sgn double w) single.infRung) = single.infRung := word_rng (inf_lt _)
    have e2 : sgn single (single.word (sgn double w) single.infRung) = sgn double w := word_sgn (inf_lt _)
    refine ⟨?_, by unfold isN; omega, single.word_lt _ (inf_lt _)⟩
    unfold wide
    rw [if_pos e1, e2, ← hi, hself]
  · rename_i hi
    obtain ⟨s, hd, rfl⟩ := Option.map_eq_some_iff.1 hn
    have hs := (down_val hd).2
    have hs' : s < single.signWeight := Nat.lt_trans hs (inf_lt _)
    have e1 : rng single (single.word (sgn double w) s) = s := word_rng hs'
    have e2 : sgn single (single.word (sgn double w) s) = sgn double w := word_sgn hs'
    refine ⟨?_, by unfold isN; omega, single.word_lt _ hs'⟩
    unfold wide
    rw [if_neg (by omega), e1, e2, up_down hd, hself]
theorem nar_wide {g : Nat} (hlt : g < 2 ^ 32) (hg : ¬ isN single g) : nar (wide g) = some g := by
  have hself : single.word (sgn single g) (rng single g) = g := word_self (by rw [s32]; omega)
  unfold nar
  rw [wide_rng g hg, wide_sgn g hg]
  by_cases h1 : rng single g = single.infRung
  · rw [if_pos h1, if_pos rfl, ← h1, hself]
  · have hs : rng single g < single.infRung := by unfold isN at hg; omega
    rw [if_neg h1, if_neg (by have := (up_val hs).2; omega), down_up hs, Option.map_some, hself]

theorem order_self {w : Nat} (h : ¬ isN double w) : double.order w w = some .eq := by
  rw [order_num bi64 h h, Int.compare_eq_eq.2 rfl]
end Go.Proofs.YtmaaacaifpgpaaaGreatDoor
