
/- Floats by their rungs: a float's value in the least unit of its format grows with its rung; what is written of a number that the format has is that number's word. -/
import Derived.Laws.FloatArith
namespace Go.Proofs.YtmaaacaifpgpaaaGreatDoor
open Ieee

/-- The magnitude of a rung in units of the format's least place. -/
def valR (f : Format) (r : Nat) : Nat := if r < f.binade then r else (f.binade + r % f.binade) * 2 ^ (r / f.binade - 1)

theorem binade_pos (f : Format) : 0 < f.binade := Nat.two_pow_pos _

theorem valR_low {f : Format} {r : Nat} (h : r < f.binade) : valR f r = r := by simp [valR, h]
theorem valR_high {f : Format} {q t : Nat} (ht : t < f.binade) : valR f ((q + 1) * f.binade + t) = (f.binade + t) * 2 ^ q := by
  have hb := binade_pos f
  have h1 : ¬ ((q + 1) * f.binade + t < f.binade) := by
    have : f.binade ≤ (q + 1) * f.binade := Nat.le_mul_of_pos_left _ (by omega)
    omega
  have h2 : ((q + 1) * f.binade + t) % f.binade = t := by
    rw [Nat.mul_comm, Nat.mul_add_mod]; exact Nat.mod_eq_of_lt ht
  have h3 : ((q + 1) * f.binade + t) / f.binade = q + 1 := by
    rw [Nat.mul_comm, Nat.mul_add_div hb, Nat.div_eq_of_lt ht]
  simp [valR, h1, h2, h3]

theorem rung_cases (f : Format) (r : Nat) : r < f.binade ∨ ∃ q t, t < f.binade ∧ r = (q + 1) * f.binade + t := by
  by_cases h : r < f.binade
  · exact .inl h
  · right
    have hb := binade_pos f
    refine ⟨r / f.binade - 1, r % f.binade, Nat.mod_lt _ hb, ?_⟩
    have h1 : 1 ≤ r / f.binade := (Nat.le_div_iff_mul_le hb).2 (by omega)
    have h2 : r / f.binade - 1 + 1 = r / f.binade := by omega
    rw [h2]
    have := Nat.div_add_mod r f.binade
    rw [Nat.mul_comm] at this
    omega

theorem valR_lt {f : Format} {a b : Nat} (h : a < b) : valR f a < valR f b := by
  have hb := binade_pos f
  rcases rung_cases f a with ha | ⟨q, t, ht, rfl⟩
  · rcases rung_cases f b with hb' | ⟨q', t', ht', rfl⟩
    · rw [valR_low ha, valR_low hb']; exact h
    · rw [valR_low ha, valR_high ht']
      have : 1 ≤ 2 ^ q' := Nat.two_pow_pos _
      have := Nat.mul_le_mul_left (f.binade + t') this
      omega
  · rcases rung_cases f b with hb' | ⟨q', t', ht', rfl⟩
    · have : f.binade ≤ (q + 1) * f.binade := Nat.le_mul_of_pos_left _ (by omega)
      omega
    · rw [valR_high ht, valR_high ht']
      by_cases hq : q = q'
      · subst hq
        exact Nat.mul_lt_mul_of_pos_right (by omega) (Nat.two_pow_pos _)
      · have hlt : q < q' := by
          by_cases h2 : q < q'
          · exact h2
          · exfalso
            have h3 : (q' + 1 + 1) * f.binade ≤ (q + 1) * f.binade := Nat.mul_le_mul_right _ (by omega)
            rw [Nat.add_mul (q' + 1) 1] at h3
            omega
        have h4 : (f.binade + t) * 2 ^ q < (f.binade + f.binade) * 2 ^ q := Nat.mul_lt_mul_of_pos_right (by omega) (Nat.two_pow_pos _)
        have h5 : (f.binade + f.binade) * 2 ^ q = f.binade * 2 ^ (q + 1) := by rw [Nat.pow_succ, ← Nat.two_mul, Nat.mul_comm 2, Nat.mul_assoc, Nat.mul_comm 2]
        have h6 : f.binade * 2 ^ (q + 1) ≤ f.binade * 2 ^ q' := Nat.mul_le_mul_left _ (Nat.pow_le_pow_right (by omega) (by omega))
        have h7 : f.binade * 2 ^ q' ≤ (f.binade + t') * 2 ^ q' := Nat.mul_le_mul_right _ (by omega)
        omega

theorem valR_inj {f : Format} {a b : Nat} (h : valR f a = valR f b) : a = b := by
  rcases Nat.lt_trichotomy a b with h1 | h1 | h1
  · have := valR_lt (f := f) h1; omega
  · exact h1
  · have := valR_lt (f := f) h1; omega

theorem valR_lt_iff {f : Format} {a b : Nat} : valR f a < valR f b ↔ a < b := by
  constructor
  · intro h
    rcases Nat.lt_trichotomy a b with h1 | h1 | h1
    · exact h1
    · subst h1; omega
    · have := valR_lt (f := f) h1; omega
  · exact valR_lt

theorem valR_zero (f : Format) : valR f 0 = 0 := valR_low (binade_pos f)
theorem valR_eq_zero {f : Format} {r : Nat} : valR f r = 0 ↔ r = 0 := by
  constructor
  · intro h; exact valR_inj (h.trans (valR_zero f).symm)
  · rintro rfl; exact valR_zero f

/-- A cut that drops noughts alone. -/
theorem cut_exact (neg : Bool) (k d : Nat) (hk : 0 < k) : Toward.even.cut neg (k * 2 ^ d) d = k := by
  have hn : 0 < k * 2 ^ d := Nat.mul_pos hk (Nat.two_pow_pos _)
  have hd : d ≤ (k * 2 ^ d).log2 := (Nat.le_log2 (by omega)).2 (Nat.le_mul_of_pos_left _ hk)
  have hm : min d ((k * 2 ^ d).log2 + 2) = d := by omega
  unfold Toward.cut
  simp only [hm, Nat.shiftLeft_eq, Nat.one_mul]
  have h2 : 0 < 2 ^ d := Nat.two_pow_pos _
  have e1 : k * 2 ^ d / 2 ^ d = k := Nat.mul_div_cancel _ h2
  have e2 : k * 2 ^ d % 2 ^ d = 0 := Nat.mul_mod_left ..
  rw [e1, e2]
  have e3 : ((2 ^ d == 2 * 0) : Bool) = false := by
    simp
  rw [e3]
  simp

theorem log2_mul_pow (k d : Nat) (hk : 0 < k) : (k * 2 ^ d).log2 = k.log2 + d := by
  have h0 : k * 2 ^ d ≠ 0 := by have := Nat.mul_pos hk (Nat.two_pow_pos d); omega
  refine (Nat.log2_eq_iff h0).2 ⟨?_, ?_⟩
  · rw [Nat.pow_add]; exact Nat.mul_le_mul_right _ (Nat.log2_self_le (by omega))
  · have : k < 2 ^ (k.log2 + 1) := Nat.lt_log2_self
    have := Nat.mul_lt_mul_of_pos_right this (Nat.two_pow_pos d)
    rw [← Nat.pow_add] at this
    have e : k.log2 + 1 + d = k.log2 + d + 1 := by omega
    rw [e] at this; exact this

/-- What is written of 'mag * 2 ^ place' where it is a rung's value: 'up' and 'dn' say how 'place' lies to the least place. -/
theorem nearest_exact (f : Format) (neg : Bool) (mag : Nat) (place : Int) (r up dn : Nat) (hm : 0 < mag) (hp : place + dn = f.leastPlace + up) (hv : mag * 2 ^ up = valR f r * 2 ^ dn) (hr : r < f.infRung) :
    f.nearest neg mag place = f.word neg r := by
  have hr0 : 0 < r := by
    by_cases h : r = 0
    · subst h; rw [valR_zero] at hv
      have := Nat.mul_pos hm (Nat.two_pow_pos up); omega
    · omega
  have hv0 : 0 < valR f r := by
    have := @valR_eq_zero f r; omega
  have hl : mag.log2 + up = (valR f r).log2 + dn := by
    rw [← log2_mul_pow _ _ hm, ← log2_mul_pow _ _ hv0, hv]
  unfold Format.nearest
  rw [if_neg (by omega)]
  -- the kept digits k at distance j above the least place
  have main : ∀ (k j : Nat), 0 < k → valR f r = k * 2 ^ j → max (place + mag.log2 - f.fractionBits) f.leastPlace = f.leastPlace + j → j * f.binade + k = r →
      f.word neg (min ((max (place + mag.log2 - f.fractionBits) f.leastPlace - f.leastPlace).toNat * f.binade + Toward.even.cut neg (mag <<< (place - max (place + mag.log2 - f.fractionBits) f.leastPlace).toNat) (max (place + mag.log2 - f.fractionBits) f.leastPlace - place).toNat) f.infRung) = f.word neg r := by
    intro k j hk hvk hlast hrj
    rw [hlast]
    have e1 : (f.leastPlace + (j : Int) - f.leastPlace).toNat = j := by omega
    rw [e1]
    have hc : Toward.even.cut neg (mag <<< (place - (f.leastPlace + j)).toNat) (f.leastPlace + j - place).toNat = k := by
      rw [hvk, Nat.mul_assoc, ← Nat.pow_add] at hv
      by_cases hle : f.leastPlace + (j : Int) ≤ place
      · have e2 : (f.leastPlace + (j : Int) - place).toNat = 0 := by omega
        rw [e2, Nat.shiftLeft_eq]
        have e3 : mag * 2 ^ (place - (f.leastPlace + (j : Int))).toNat = k := by
          have e4 : up = (place - (f.leastPlace + (j : Int))).toNat + (j + dn) := by omega
          rw [e4, Nat.pow_add, ← Nat.mul_assoc] at hv
          exact Nat.eq_of_mul_eq_mul_right (Nat.two_pow_pos _) hv
        rw [e3]
        have := cut_exact neg k 0 hk
        simpa using this
      · have e2 : (place - (f.leastPlace + (j : Int))).toNat = 0 := by omega
        rw [e2, Nat.shiftLeft_eq, Nat.pow_zero, Nat.mul_one]
        have e4 : j + dn = up + (f.leastPlace + (j : Int) - place).toNat := by omega
        rw [e4, Nat.add_comm up, Nat.pow_add, ← Nat.mul_assoc] at hv
        have e5 : mag = k * 2 ^ (f.leastPlace + (j : Int) - place).toNat := Nat.eq_of_mul_eq_mul_right (Nat.two_pow_pos _) hv
        generalize (f.leastPlace + (j : Int) - place).toNat = d at e5 ⊢
        subst e5
        exact cut_exact neg k d hk
    rw [hc, hrj, Nat.min_eq_left (by omega)]
  rcases rung_cases f r with hlow | ⟨q, t, ht, hrq⟩
  · refine main r 0 hr0 (by rw [valR_low hlow]; simp) ?_ (by simp)
    rw [valR_low hlow] at hl
    have h1 : r.log2 < f.fractionBits := (Nat.log2_lt (by omega)).2 hlow
    omega
  · refine main (f.binade + t) q (by have := binade_pos f; omega) (by rw [hrq, valR_high ht]) ?_ (by rw [hrq, Nat.add_mul]; omega)
    rw [hrq, valR_high ht, log2_mul_pow _ _ (by have := binade_pos f; omega)] at hl
    have h1 : (f.binade + t).log2 = f.fractionBits := by
      have hb := binade_pos f
      refine (Nat.log2_eq_iff (by omega)).2 ⟨?_, ?_⟩
      · exact Nat.le_add_right ..
      · rw [Nat.pow_succ]; change f.binade + t < f.binade * 2; omega
    rw [h1] at hl
    omega

/-- A word's sign and rung; the number of a rung with its sign. -/
def sgn (f : Format) (w : Nat) : Bool := w / f.signWeight % 2 == 1
def rng (f : Format) (w : Nat) : Nat := w % f.signWeight
def isN (f : Format) (w : Nat) : Prop := f.infRung < rng f w
instance (f : Format) (w : Nat) : Decidable (isN f w) := inferInstanceAs (Decidable (_ < _))
def sr (f : Format) (w : Nat) : Int := if sgn f w then -(rng f w : Int) else rng f w
def sv (s : Bool) (v : Nat) : Int := if s then -(v : Int) else v

theorem read_num {f : Format} {w : Nat} (h : rng f w < f.infRung) : ∃ m e : Nat, f.read w = .number (sgn f w) m (f.leastPlace + e) ∧ m * 2 ^ e = valR f (rng f w) := by
  unfold Format.read
  by_cases hl : rng f w < f.binade
  · refine ⟨rng f w, 0, ?_, by rw [valR_low hl]; simp⟩
    have : w % f.signWeight < f.binade := hl
    simp [this, sgn, rng]
  · refine ⟨f.binade + rng f w % f.binade, rng f w / f.binade - 1, ?_, by simp [valR, hl]⟩
    have h1 : ¬ (w % f.signWeight < f.binade) := hl
    have h2 : w % f.signWeight < f.infRung := h
    simp [h1, h2, sgn, rng]
theorem read_inf {f : Format} {w : Nat} (hb : f.binade ≤ f.infRung) (h : rng f w = f.infRung) : f.read w = .infinity (sgn f w) := by
  unfold Format.read
  have h0 : w % f.signWeight = f.infRung := h
  have h1 : ¬ (f.infRung < f.binade) := by omega
  simp [h0, h1, sgn]
theorem read_nan {f : Format} {w : Nat} (hb : f.binade ≤ f.infRung) (h : isN f w) : ∃ t, f.read w = .nan (sgn f w) t := by
  unfold Format.read
  have h0 : f.infRung < w % f.signWeight := h
  have h1 : ¬ (w % f.signWeight < f.binade) := by omega
  have h2 : ¬ (w % f.signWeight < f.infRung) := by omega
  have h3 : ¬ (w % f.signWeight = f.infRung) := by omega
  exact ⟨_, by simp only [h1, h2, h3, if_false]; rfl⟩

theorem signed_eq (s : Bool) (m k : Nat) : signed s m k = sv s (m * 2 ^ k) := by
  simp [signed, sv, Nat.shiftLeft_eq]
theorem sv_scale (s : Bool) (v k : Nat) : sv s (v * k) = sv s v * k := by
  cases s <;> simp [sv, Int.neg_mul]
theorem compare_scale (a b : Int) (k : Nat) (hk : 0 < k) : compare (a * k) (b * k) = compare a b := by
  have hk' : (0 : Int) < k := by omega
  rcases Int.lt_trichotomy a b with h | h | h
  · rw [Int.compare_eq_lt.2 h, Int.compare_eq_lt.2 (Int.mul_lt_mul_of_pos_right h hk')]
  · subst h; rw [Int.compare_eq_eq.2 rfl, Int.compare_eq_eq.2 rfl]
  · rw [Int.compare_eq_gt.2 h, Int.compare_eq_gt.2 (Int.mul_lt_mul_of_pos_right h hk')]
theorem compare_sv (f : Format) (s t : Bool) (a b : Nat) : compare (sv s (valR f a)) (sv t (valR f b)) = compare (sv s a) (sv t b) := by
  have z := valR_zero f
  have za := @valR_eq_zero f a
  have zb := @valR_eq_zero f b
  have ab := @valR_lt_iff f a b
  have ba := @valR_lt_iff f b a
  have hab : valR f a = valR f b ↔ a = b := ⟨valR_inj, fun h => by rw [h]⟩
  rcases Int.lt_trichotomy (sv s a) (sv t b) with h | h | h
  · rw [Int.compare_eq_lt.2 h, Int.compare_eq_lt.2]
    revert h; cases s <;> cases t <;> simp only [sv, if_true, if_false, Bool.false_eq_true] <;> omega
  · rw [Int.compare_eq_eq.2 h, Int.compare_eq_eq.2]
    revert h; cases s <;> cases t <;> simp only [sv, if_true, if_false, Bool.false_eq_true] <;> omega
  · rw [Int.compare_eq_gt.2 h, Int.compare_eq_gt.2]
    revert h; cases s <;> cases t <;> simp only [sv, if_true, if_false, Bool.false_eq_true] <;> omega

theorem order_nan {f : Format} {a b : Nat} (hb : f.binade ≤ f.infRung) (h : isN f a ∨ isN f b) : f.order a b = none := by
  unfold Format.order
  rcases h with h | h
  · obtain ⟨t, e⟩ := read_nan hb h; rw [e]; rfl
  · obtain ⟨t, e⟩ := read_nan hb h; rw [e]
    cases f.read a <;> rfl

theorem order_num {f : Format} {a b : Nat} (hb : f.binade ≤ f.infRung) (ha : ¬ isN f a) (hb' : ¬ isN f b) : f.order a b = some (compare (sr f a) (sr f b)) := by
  have hi : 0 < f.infRung := by have := binade_pos f; omega
  unfold Format.order
  have ha' : rng f a < f.infRung ∨ rng f a = f.infRung := by unfold isN at ha; omega
  have hb'' : rng f b < f.infRung ∨ rng f b = f.infRung := by unfold isN at hb'; omega
  rcases ha' with h1 | h1 <;> rcases hb'' with h2 | h2
  · obtain ⟨m, e, r1, v1⟩ := read_num h1
    obtain ⟨n, e', r2, v2⟩ := read_num h2
    rw [r1, r2]
    simp only [Datum.order]
    have k1 : (f.leastPlace + (e : Int) - min (f.leastPlace + (e : Int)) (f.leastPlace + (e' : Int))).toNat = e - min e e' := by omega
    have k2 : (f.leastPlace + (e' : Int) - min (f.leastPlace + (e : Int)) (f.leastPlace + (e' : Int))).toNat = e' - min e e' := by omega
    rw [k1, k2, signed_eq, signed_eq]
    have w1 : m * 2 ^ (e - min e e') * 2 ^ (min e e') = valR f (rng f a) := by
      rw [Nat.mul_assoc, ← Nat.pow_add, Nat.sub_add_cancel (Nat.min_le_left ..), v1]
    have w2 : n * 2 ^ (e' - min e e') * 2 ^ (min e e') = valR f (rng f b) := by
      rw [Nat.mul_assoc, ← Nat.pow_add, Nat.sub_add_cancel (Nat.min_le_right ..), v2]
    rw [← compare_scale _ _ (2 ^ min e e') (Nat.two_pow_pos _), ← sv_scale, ← sv_scale, w1, w2, compare_sv]
    rfl
  · obtain ⟨m, e, r1, v1⟩ := read_num h1
    rw [r1, read_inf hb h2]
    simp only [Datum.order, sr]
    cases sgn f b <;> simp only [if_true, if_false, Bool.false_eq_true, Option.some.injEq]
    · rw [Int.compare_eq_lt.2]; cases sgn f a <;> simp only [if_true, if_false, Bool.false_eq_true] <;> omega
    · rw [Int.compare_eq_gt.2]; cases sgn f a <;> simp only [if_true, if_false, Bool.false_eq_true] <;> omega
  · obtain ⟨n, e', r2, v2⟩ := read_num h2
    rw [r2, read_inf hb h1]
    simp only [Datum.order, sr]
    cases sgn f a <;> simp only [if_true, if_false, Bool.false_eq_true, Option.some.injEq]
    · rw [Int.compare_eq_gt.2]; cases sgn f b <;> simp only [if_true, if_false, Bool.false_eq_true] <;> omega
    · rw [Int.compare_eq_lt.2]; cases sgn f b <;> simp only [if_true, if_false, Bool.false_eq_true] <;> omega
  · rw [read_inf hb h1, read_inf hb h2]
    simp only [Datum.order, sr, h1, h2]
    cases sgn f a <;> cases sgn f b <;> simp only [if_true, if_false, Bool.false_eq_true, Option.some.injEq]
    · rw [Int.compare_eq_eq.2 rfl]; rfl
    · rw [Int.compare_eq_gt.2 (by omega)]; rfl
    · rw [Int.compare_eq_lt.2 (by omega)]; rfl
    · rw [Int.compare_eq_eq.2 rfl]; rfl
end Go.Proofs.YtmaaacaifpgpaaaGreatDoor
