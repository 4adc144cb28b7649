/- Floats by their rungs: a float's value in the least unit of its format grows with its rung; what is written of a number that the format has is that number's word. Of 64 bits and of 32: which float of 32 bits has a float's value, and what widening one gives. What Go's conversions between floats of 32 and 64 bits give. -/
import Derived.Laws.FloatArith
namespace Go.Proofs.Ytlkinkbdhoejiaa
open Ieee

/-- The magnitude of a rung in units of the format's least place. -/
def valR (f : Format) (r : Nat) : Nat := if r < f.binade then r else (f.binade + r % f.binade) * 2 ^ (r / f.binade - 1)

theorem binade_pos (f : Format) : 0 < f.binade := Nat.two_pow_pos _

theorem valR_low {f : Format} {r : Nat} (h : r < f.binade) : valR f r = r := by simp [valR, h]
theorem valR_high {f : Format} {q t : Nat} (ht : t < f.binade) : valR f ((q + 1) * f.binade + t) = (f.binade + t) * 2 ^ q := by
  have hb := binade_pos f
  have h1 : ¬ ((q + 1) * f.binade + t < f.binade) := by
    have : f.binade ≤ (q + 1) * f.binade := Nat.le_mul_of_pos_left _ (by omega)
    omega
  have h2 : ((q + 1) * f.binade + t) % f.binade = t := by
    rw [Nat.mul_comm, Nat.mul_add_mod]; exact Nat.mod_eq_of_lt ht
  have h3 : ((q + 1) * f.binade + t) / f.binade = q + 1 := by
    rw [Nat.mul_comm, Nat.mul_add_div hb, Nat.div_eq_of_lt ht]
  simp [valR, h1, h2, h3]

theorem rung_cases (f : Format) (r : Nat) : r < f.binade ∨ ∃ q t, t < f.binade ∧ r = (q + 1) * f.binade + t := by
  by_cases h : r < f.binade
  · exact .inl h
  · right
    have hb := binade_pos f
    refine ⟨r / f.binade - 1, r % f.binade, Nat.mod_lt _ hb, ?_⟩
    have h1 : 1 ≤ r / f.binade := (Nat.le_div_iff_mul_le hb).2 (by omega)
    have h2 : r / f.binade - 1 + 1 = r / f.binade := by omega
    rw [h2]
    have := Nat.div_add_mod r f.binade
    rw [Nat.mul_comm] at this
    omega

theorem valR_lt {f : Format} {a b : Nat} (h : a < b) : valR f a < valR f b := by
  have hb := binade_pos f
  rcases rung_cases f a with ha | ⟨q, t, ht, rfl⟩
  · rcases rung_cases f b with hb' | ⟨q', t', ht', rfl⟩
    · rw [valR_low ha, valR_low hb']; exact h
    · rw [valR_low ha, valR_high ht']
      have : 1 ≤ 2 ^ q' := Nat.two_pow_pos _
      have := Nat.mul_le_mul_left (f.binade + t') this
      omega
  · rcases rung_cases f b with hb' | ⟨q', t', ht', rfl⟩
    · have : f.binade ≤ (q + 1) * f.binade := Nat.le_mul_of_pos_left _ (by omega)
      omega
    · rw [valR_high ht, valR_high ht']
      by_cases hq : q = q'
      · subst hq
        exact Nat.mul_lt_mul_of_pos_right (by omega) (Nat.two_pow_pos _)
      · have hlt : q < q' := by
          by_cases h2 : q < q'
          · exact h2
          · exfalso
            have h3 : (q' + 1 + 1) * f.binade ≤ (q + 1) * f.binade := Nat.mul_le_mul_right _ (by omega)
            rw [Nat.add_mul (q' + 1) 1] at h3
            omega
        have h4 : (f.binade + t) * 2 ^ q < (f.binade + f.binade) * 2 ^ q := Nat.mul_lt_mul_of_pos_right (by omega) (Nat.two_pow_pos _)
        have h5 : (f.binade + f.binade) * 2 ^ q = f.binade * 2 ^ (q + 1) := by rw [Nat.pow_succ, ← Nat.two_mul, Nat.mul_comm 2, Nat.mul_assoc, Nat.mul_comm 2]
        have h6 : f.binade * 2 ^ (q + 1) ≤ f.binade * 2 ^ q' := Nat.mul_le_mul_left _ (Nat.pow_le_pow_right (by omega) (by omega))
        have h7 : f.binade * 2 ^ q' ≤ (f.binade + t') * 2 ^ q' := Nat.mul_le_mul_right _ (by omega)
        omega

theorem valR_inj {f : Format} {a b : Nat} (h : valR f a = valR f b) : a = b := by
  rcases Nat.lt_trichotomy a b with h1 | h1 | h1
  · have := valR_lt (f := f) h1; omega
  · exact h1
  · have := valR_lt (f := f) h1; omega

theorem valR_lt_iff {f : Format} {a b : Nat} : valR f a < valR f b ↔ a < b := by
  constructor
  · intro h
    rcases Nat.lt_trichotomy a b with h1 | h1 | h1
    · exact h1
    · subst h1; omega
    · have := valR_lt (f := f) h1; omega
  · exact valR_lt

theorem valR_zero (f : Format) : valR f 0 = 0 := valR_low (binade_pos f)
theorem valR_eq_zero {f : Format} {r : Nat} : valR f r = 0 ↔ r = 0 := by
  constructor
  · intro h; exact valR_inj (h.trans (valR_zero f).symm)
  · rintro rfl; exact valR_zero f

/-- A cut that drops noughts alone. -/
theorem cut_exact (neg : Bool) (k d : Nat) (hk : 0 < k) : Toward.even.cut neg (k * 2 ^ d) d = k := by
  have hn : 0 < k * 2 ^ d := Nat.mul_pos hk (Nat.two_pow_pos _)
  have hd : d ≤ (k * 2 ^ d).log2 := (Nat.le_log2 (by omega)).2 (Nat.le_mul_of_pos_left _ hk)
  have hm : min d ((k * 2 ^ d).log2 + 2) = d := by omega
  unfold Toward.cut
  simp only [hm, Nat.shiftLeft_eq, Nat.one_mul]
  have h2 : 0 < 2 ^ d := Nat.two_pow_pos _
  have e1 : k * 2 ^ d / 2 ^ d = k := Nat.mul_div_cancel _ h2
  have e2 : k * 2 ^ d % 2 ^ d = 0 := Nat.mul_mod_left ..
  rw [e1, e2]
  have e3 : ((2 ^ d == 2 * 0) : Bool) = false := by
    simp
  rw [e3]
  simp

theorem log2_mul_pow (k d : Nat) (hk : 0 < k) : (k * 2 ^ d).log2 = k.log2 + d := by
  have h0 : k * 2 ^ d ≠ 0 := by have := Nat.mul_pos hk (Nat.two_pow_pos d); omega
  refine (Nat.log2_eq_iff h0).2 ⟨?_, ?_⟩
  · rw [Nat.pow_add]; exact Nat.mul_le_mul_right _ (Nat.log2_self_le (by omega))
  · have : k < 2 ^ (k.log2 + 1) := Nat.lt_log2_self
    have := Nat.mul_lt_mul_of_pos_right this (Nat.two_pow_pos d)
    rw [← Nat.pow_add] at this
    have e : k.log2 + 1 + d = k.log2 + d + 1 := by omega
    rw [e] at this; exact this

/-- What is written of 'mag * 2 ^ place' where it is a rung's value: 'up' and 'dn' say how 'place' lies to the least place. -/
theorem nearest_exact (f : Format) (neg : Bool) (mag : Nat) (place : Int) (r up dn : Nat) (hm : 0 < mag) (hp : place + dn = f.leastPlace + up) (hv : mag * 2 ^ up = valR f r * 2 ^ dn) (hr : r < f.infRung) :
    f.nearest neg mag place = f.word neg r := by
  have hr0 : 0 < r := by
    by_cases h : r = 0
    · subst h; rw [valR_zero] at hv
      have := Nat.mul_pos hm (Nat.two_pow_pos up); omega
    · omega
  have hv0 : 0 < valR f r := by
    have := @valR_eq_zero f r; omega
  have hl : mag.log2 + up = (valR f r).log2 + dn := by
    rw [← log2_mul_pow _ _ hm, ← log2_mul_pow _ _ hv0, hv]
  unfold Format.nearest
  rw [if_neg (by omega)]
  -- the kept digits k at distance j above the least place
  have main : ∀ (k j : Nat), 0 < k → valR f r = k * 2 ^ j → max (place + mag.log2 - f.fractionBits) f.leastPlace = f.leastPlace + j → j * f.binade + k = r →
      f.word neg (min ((max (place + mag.log2 - f.fractionBits) f.leastPlace - f.leastPlace).toNat * f.binade + Toward.even.cut neg (mag <<< (place - max (place + mag.log2 - f.fractionBits) f.leastPlace).toNat) (max (place + mag.log2 - f.fractionBits) f.leastPlace - place).toNat) f.infRung) = f.word neg r := by
    intro k j hk hvk hlast hrj
    rw [hlast]
    have e1 : (f.leastPlace + (j : Int) - f.leastPlace).toNat = j := by omega
    rw [e1]
    have hc : Toward.even.cut neg (mag <<< (place - (f.leastPlace + j)).toNat) (f.leastPlace + j - place).toNat = k := by
      rw [hvk, Nat.mul_assoc, ← Nat.pow_add] at hv
      by_cases hle : f.leastPlace + (j : Int) ≤ place
      · have e2 : (f.leastPlace + (j : Int) - place).toNat = 0 := by omega
        rw [e2, Nat.shiftLeft_eq]
        have e3 : mag * 2 ^ (place - (f.leastPlace + (j : Int))).toNat = k := by
          have e4 : up = (place - (f.leastPlace + (j : Int))).toNat + (j + dn) := by omega
          rw [e4, Nat.pow_add, ← Nat.mul_assoc] at hv
          exact Nat.eq_of_mul_eq_mul_right (Nat.two_pow_pos _) hv
        rw [e3]
        have := cut_exact neg k 0 hk
        simpa using this
      · have e2 : (place - (f.leastPlace + (j : Int))).toNat = 0 := by omega
        rw [e2, Nat.shiftLeft_eq, Nat.pow_zero, Nat.mul_one]
        have e4 : j + dn = up + (f.leastPlace + (j : Int) - place).toNat := by omega
        rw [e4, Nat.add_comm up, Nat.pow_add, ← Nat.mul_assoc] at hv
        have e5 : mag = k * 2 ^ (f.leastPlace + (j : Int) - place).toNat := Nat.eq_of_mul_eq_mul_right (Nat.two_pow_pos _) hv
        generalize (f.leastPlace + (j : Int) - place).toNat = d at e5 ⊢
        subst e5
        exact cut_exact neg k d hk
    rw [hc, hrj, Nat.min_eq_left (by omega)]
  rcases rung_cases f r with hlow | ⟨q, t, ht, hrq⟩
  · refine main r 0 hr0 (by rw [valR_low hlow]; simp) ?_ (by simp)
    rw [valR_low hlow] at hl
    have h1 : r.log2 < f.fractionBits := (Nat.log2_lt (by omega)).2 hlow
    omega
  · refine main (f.binade + t) q (by have := binade_pos f; omega) (by rw [hrq, valR_high ht]) ?_ (by rw [hrq, Nat.add_mul]; omega)
    rw [hrq, valR_high ht, log2_mul_pow _ _ (by have := binade_pos f; omega)] at hl
    have h1 : (f.binade + t).log2 = f.fractionBits := by
      have hb := binade_pos f
      refine (Nat.log2_eq_iff (by omega)).2 ⟨?_, ?_⟩
      · exact Nat.le_add_right ..
      · rw [Nat.pow_succ]; change f.binade + t < f.binade * 2; omega
    rw [h1] at hl
    omega

/-- A word's sign and rung; the number of a rung with its sign. -/
def sgn (f : Format) (w : Nat) : Bool := w / f.signWeight % 2 == 1
def rng (f : Format) (w : Nat) : Nat := w % f.signWeight
def isN (f : Format) (w : Nat) : Prop := f.infRung < rng f w
instance (f : Format) (w : Nat) : Decidable (isN f w) := inferInstanceAs (Decidable (_ < _))
def sr (f : Format) (w : Nat) : Int := if sgn f w then -(rng f w : Int) else rng f w
def sv (s : Bool) (v : Nat) : Int := if s then -(v : Int) else v

theorem read_num {f : Format} {w : Nat} (h : rng f w < f.infRung) : ∃ m e : Nat, f.read w = .number (sgn f w) m (f.leastPlace + e) ∧ m * 2 ^ e = valR f (rng f w) := by
  unfold Format.read
  by_cases hl : rng f w < f.binade
  · refine ⟨rng f w, 0, ?_, by rw [valR_low hl]; simp⟩
    have : w % f.signWeight < f.binade := hl
    simp [this, sgn, rng]
  · refine ⟨f.binade + rng f w % f.binade, rng f w / f.binade - 1, ?_, by simp [valR, hl]⟩
    have h1 : ¬ (w % f.signWeight < f.binade) := hl
    have h2 : w % f.signWeight < f.infRung := h
    simp [h1, h2, sgn, rng]
theorem read_inf {f : Format} {w : Nat} (hb : f.binade ≤ f.infRung) (h : rng f w = f.infRung) : f.read w = .infinity (sgn f w) := by
  unfold Format.read
  have h0 : w % f.signWeight = f.infRung := h
  have h1 : ¬ (f.infRung < f.binade) := by omega
  simp [h0, h1, sgn]
theorem read_nan {f : Format} {w : Nat} (hb : f.binade ≤ f.infRung) (h : isN f w) : ∃ t, f.read w = .nan (sgn f w) t := by
  unfold Format.read
  have h0 : f.infRung < w % f.signWeight := h
  have h1 : ¬ (w % f.signWeight < f.binade) := by omega
  have h2 : ¬ (w % f.signWeight < f.infRung) := by omega
  have h3 : ¬ (w % f.signWeight = f.infRung) := by omega
  exact ⟨_, by simp only [h1, h2, h3, if_false]; rfl⟩

theorem signed_eq (s : Bool) (m k : Nat) : signed s m k = sv s (m * 2 ^ k) := by
  simp [signed, sv, Nat.shiftLeft_eq]
theorem sv_scale (s : Bool) (v k : Nat) : sv s (v * k) = sv s v * k := by
  cases s <;> simp [sv, Int.neg_mul]
theorem compare_scale (a b : Int) (k : Nat) (hk : 0 < k) : compare (a * k) (b * k) = compare a b := by
  have hk' : (0 : Int) < k := by omega
  rcases Int.lt_trichotomy a b with h | h | h
  · rw [Int.compare_eq_lt.2 h, Int.compare_eq_lt.2 (Int.mul_lt_mul_of_pos_right h hk')]
  · subst h; rw [Int.compare_eq_eq.2 rfl, Int.compare_eq_eq.2 rfl]
  · rw [Int.compare_eq_gt.2 h, Int.compare_eq_gt.2 (Int.mul_lt_mul_of_pos_right h hk')]
theorem compare_sv (f : Format) (s t : Bool) (a b : Nat) : compare (sv s (valR f a)) (sv t (valR f b)) = compare (sv s a) (sv t b) := by
  have z := valR_zero f
  have za := @valR_eq_zero f a
  have zb := @valR_eq_zero f b
  have ab := @valR_lt_iff f a b
  have ba := @valR_lt_iff f b a
  have hab : valR f a = valR f b ↔ a = b := ⟨valR_inj, fun h => by rw [h]⟩
  rcases Int.lt_trichotomy (sv s a) (sv t b) with h | h | h
  · rw [Int.compare_eq_lt.2 h, Int.compare_eq_lt.2]
    revert h; cases s <;> cases t <;> simp only [sv, if_true, if_false, Bool.false_eq_true] <;> omega
  · rw [Int.compare_eq_eq.2 h, Int.compare_eq_eq.2]
    revert h; cases s <;> cases t <;> simp only [sv, if_true, if_false, Bool.false_eq_true] <;> omega
  · rw [Int.compare_eq_gt.2 h, Int.compare_eq_gt.2]
    revert h; cases s <;> cases t <;> simp only [sv, if_true, if_false, Bool.false_eq_true] <;> omega

theorem order_nan {f : Format} {a b : Nat} (hb : f.binade ≤ f.infRung) (h : isN f a ∨ isN f b) : f.order a b = none := by
  unfold Format.order
  rcases h with h | h
  · obtain ⟨t, e⟩ := read_nan hb h; rw [e]; rfl
  · obtain ⟨t, e⟩ := read_nan hb h; rw [e]
    cases f.read a <;> rfl

theorem order_num {f : Format} {a b : Nat} (hb : f.binade ≤ f.infRung) (ha : ¬ isN f a) (hb' : ¬ isN f b) : f.order a b = some (compare (sr f a) (sr f b)) := by
  have hi : 0 < f.infRung := by have := binade_pos f; omega
  unfold Format.order
  have ha' : rng f a < f.infRung ∨ rng f a = f.infRung := by unfold isN at ha; omega
  have hb'' : rng f b < f.infRung ∨ rng f b = f.infRung := by unfold isN at hb'; omega
  rcases ha' with h1 | h1 <;> rcases hb'' with h2 | h2
  · obtain ⟨m, e, r1, v1⟩ := read_num h1
    obtain ⟨n, e', r2, v2⟩ := read_num h2
    rw [r1, r2]
    simp only [Datum.order]
    have k1 : (f.leastPlace + (e : Int) - min (f.leastPlace + (e : Int)) (f.leastPlace + (e' : Int))).toNat = e - min e e' := by omega
    have k2 : (f.leastPlace + (e' : Int) - min (f.leastPlace + (e : Int)) (f.leastPlace + (e' : Int))).toNat = e' - min e e' := by omega
    rw [k1, k2, signed_eq, signed_eq]
    have w1 : m * 2 ^ (e - min e e') * 2 ^ (min e e') = valR f (rng f a) := by
      rw [Nat.mul_assoc, ← Nat.pow_add, Nat.sub_add_cancel (Nat.min_le_left ..), v1]
    have w2 : n * 2 ^ (e' - min e e') * 2 ^ (min e e') = valR f (rng f b) := by
      rw [Nat.mul_assoc, ← Nat.pow_add, Nat.sub_add_cancel (Nat.min_le_right ..), v2]
    rw [← compare_scale _ _ (2 ^ min e e') (Nat.two_pow_pos _), ← sv_scale, ← sv_scale, w1, w2, compare_sv]
    rfl
  · obtain ⟨m, e, r1, v1⟩ := read_num h1
    rw [r1, read_inf hb h2]
    simp only [Datum.order, sr]
    cases sgn f b <;> simp only [if_true, if_false, Bool.false_eq_true, Option.some.injEq]
    · rw [Int.compare_eq_lt.2]; cases sgn f a <;> simp only [if_true, if_false, Bool.false_eq_true] <;> omega
    · rw [Int.compare_eq_gt.2]; cases sgn f a <;> simp only [if_true, if_false, Bool.false_eq_true] <;> omega
  · obtain ⟨n, e', r2, v2⟩ := read_num h2
    rw [r2, read_inf hb h1]
    simp only [Datum.order, sr]
    cases sgn f a <;> simp only [if_true, if_false, Bool.false_eq_true, Option.some.injEq]
    · rw [Int.compare_eq_gt.2]; cases sgn f b <;> simp only [if_true, if_false, Bool.false_eq_true] <;> omega
    · rw [Int.compare_eq_lt.2]; cases sgn f b <;> simp only [if_true, if_false, Bool.false_eq_true] <;> omega
  · rw [read_inf hb h1, read_inf hb h2]
    simp only [Datum.order, sr, h1, h2]
    cases sgn f a <;> cases sgn f b <;> simp only [if_true, if_false, Bool.false_eq_true, Option.some.injEq]
    · rw [Int.compare_eq_eq.2 rfl]; rfl
    · rw [Int.compare_eq_gt.2 (by omega)]; rfl
    · rw [Int.compare_eq_lt.2 (by omega)]; rfl
    · rw [Int.compare_eq_eq.2 rfl]; rfl
end Go.Proofs.Ytlkinkbdhoejiaa

namespace Go.Proofs.Ytlkinkbdhoejiaa
open Ieee

/-- How many places the least ones of both lie apart. -/
@[irreducible] def k925 : Nat := 925
theorem k925_eq : k925 = 925 := by unfold k925; rfl
theorem b64 : double.binade = 2 ^ 52 := rfl
theorem b32 : single.binade = 2 ^ 23 := rfl
theorem i64 : double.infRung = 2047 * 2 ^ 52 := rfl
theorem i32 : single.infRung = 255 * 2 ^ 23 := rfl
theorem s64 : double.signWeight = 2 ^ 63 := rfl
theorem s32 : single.signWeight = 2 ^ 31 := rfl
theorem l64 : double.leastPlace = -1074 := by decide
theorem l32 : single.leastPlace = -149 := by decide
theorem bi64 : double.binade ≤ double.infRung := by decide
theorem bi32 : single.binade ≤ single.infRung := by decide

/-- The rung of 64 bits with the value of one of 32 (finite ones). -/
def upR (s : Nat) : Nat :=
  if s = 0 then 0
  else if s < 2 ^ 23 then (874 + s.log2) * 2 ^ 52 + (s * 2 ^ (52 - s.log2) - 2 ^ 52)
  else (s / 2 ^ 23 + 896) * 2 ^ 52 + s % 2 ^ 23 * 2 ^ 29

/-- The rung of 32 bits with the value of one of 64, if there is one (finite ones). -/
def downR (r : Nat) : Option Nat :=
  if r = 0 then some 0
  else if 897 ≤ r / 2 ^ 52 ∧ r / 2 ^ 52 ≤ 1150 ∧ r % 2 ^ 29 = 0 then some ((r / 2 ^ 52 - 896) * 2 ^ 23 + r % 2 ^ 52 / 2 ^ 29)
  else if r / 2 ^ 52 < 897 ∧ 874 ≤ r / 2 ^ 52 ∧ (r % 2 ^ 52 + 2 ^ 52) % 2 ^ (926 - r / 2 ^ 52) = 0 then some ((r % 2 ^ 52 + 2 ^ 52) / 2 ^ (926 - r / 2 ^ 52))
  else none

theorem qB (q t : Nat) (h : (q + 1) * 2 ^ 23 + t < 255 * 2 ^ 23) : q ≤ 253 := by omega
theorem tB {t : Nat} (ht : t < 2 ^ 23) : t * 2 ^ 29 < 2 ^ 52 := by omega
theorem e9 (q : Nat) : 29 + (q + 896) = q + k925 := by rw [k925_eq]; omega
theorem eB (t : Nat) : 2 ^ 52 + t * 2 ^ 29 = (2 ^ 23 + t) * 2 ^ 29 := by omega
theorem iB {q t : Nat} (hq : q ≤ 253) (ht : t < 2 ^ 23) : (q + 1 + 896) * 2 ^ 52 + t * 2 ^ 29 < 2047 * 2 ^ 52 := by omega
theorem fB (q t : Nat) : (q + 897 - 896) * 2 ^ 23 + t * 2 ^ 29 / 2 ^ 29 = (q + 1) * 2 ^ 23 + t := by
  have h1 : t * 2 ^ 29 / 2 ^ 29 = t := by omega
  have h2 : q + 897 - 896 = q + 1 := by omega
  rw [h1, h2]
theorem rB (r : Nat) (a : 897 ≤ r / 2 ^ 52) (b : r / 2 ^ 52 ≤ 1150) (c : r % 2 ^ 29 = 0) : ∃ q t, q ≤ 253 ∧ t < 2 ^ 23 ∧ r = (q + 897) * 2 ^ 52 + t * 2 ^ 29 := ⟨r / 2 ^ 52 - 897, r % 2 ^ 52 / 2 ^ 29, by omega, by omega, by omega⟩
theorem kB {e k t : Nat} (he : e ≤ 22) (ht : t < 2 ^ 52) (hd : 2 ^ (52 - e) * k = t + 2 ^ 52) : k < 2 ^ 23 := by
  have h5 : k * 2 ^ (52 - e) < 2 ^ 53 := by rw [Nat.mul_comm]; omega
  have h6 : 2 ^ 23 * 2 ^ 30 ≤ 2 ^ 23 * 2 ^ (52 - e) := Nat.mul_le_mul_left _ (Nat.pow_le_pow_right (by omega) (by omega))
  by_cases h7 : k < 2 ^ 23
  · exact h7
  · have h8 := Nat.mul_le_mul_right (2 ^ (52 - e)) (Nat.le_of_not_lt h7)
    omega
theorem sB {k : Nat} (h : k < 2 ^ 23) : k < 255 * 2 ^ 23 := by omega
theorem nB {q t : Nat} (hq : q ≤ 253) (ht : t < 2 ^ 23) : (q + 1) * 2 ^ 23 + t < 255 * 2 ^ 23 := by omega

theorem zG (k : Nat) : valR double 0 = valR single 0 * k := by rw [valR_zero, valR_zero, Nat.zero_mul]

theorem up_val {s : Nat} (h : s < single.infRung) : valR double (upR s) = valR single s * 2 ^ k925 ∧ upR s < double.infRung := by
  rw [i32] at h
  unfold upR
  by_cases h0 : s = 0
  · subst h0; rw [if_pos rfl]; exact ⟨zG _, by decide⟩
  rw [if_neg h0]
  by_cases h1 : s < 2 ^ 23
  · rw [if_pos h1]
    have hl : s.log2 < 23 := (Nat.log2_lt h0).2 h1
    have lo : 2 ^ s.log2 ≤ s := Nat.log2_self_le h0
    have hi : s < 2 ^ (s.log2 + 1) := Nat.lt_log2_self
    have e52 : 2 ^ s.log2 * 2 ^ (52 - s.log2) = 2 ^ 52 := by rw [← Nat.pow_add]; congr 1; omega
    have lo' := Nat.mul_le_mul_right (2 ^ (52 - s.log2)) lo
    have hi' := Nat.mul_lt_mul_of_pos_right hi (Nat.two_pow_pos (52 - s.log2))
    rw [e52] at lo'
    rw [Nat.pow_succ, Nat.mul_assoc, Nat.mul_comm 2, ← Nat.mul_assoc, e52] at hi'
    have ev := @valR_high double (873 + s.log2) (s * 2 ^ (52 - s.log2) - 2 ^ 52) (by rw [b64]; omega)
    rw [b64] at ev
    have ea : 873 + s.log2 + 1 = 874 + s.log2 := by omega
    rw [ea] at ev
    rw [ev, valR_low (f := single) (by rw [b32]; exact h1)]
    refine ⟨?_, ?_⟩
    · rw [Nat.add_sub_cancel' lo', Nat.mul_assoc, ← Nat.pow_add]
      have e9 : 52 - s.log2 + (873 + s.log2) = k925 := by rw [k925_eq]; omega
      rw [e9]
    · rw [i64]; omega
  · rw [if_neg h1]
    obtain ⟨q, t, ht, rfl⟩ : ∃ q t, t < 2 ^ 23 ∧ s = (q + 1) * 2 ^ 23 + t := by
      rcases rung_cases single s with h2 | ⟨q, t, h3, h4⟩
      · rw [b32] at h2; exact absurd h2 h1
      · rw [b32] at h3 h4; exact ⟨q, t, h3, h4⟩
    have d1 : ((q + 1) * 2 ^ 23 + t) / 2 ^ 23 = q + 1 := by omega
    have d2 : ((q + 1) * 2 ^ 23 + t) % 2 ^ 23 = t := by omega
    rw [d1, d2]
    have hq : q ≤ 253 := qB q t h
    clear d1 d2 h0 h1 h
    have ev := @valR_high double (q + 896) (t * 2 ^ 29) (by rw [b64]; exact tB ht)
    have ev' := @valR_high single q t (by rw [b32]; exact ht)
    rw [b64] at ev
    rw [b32] at ev'
    have ea : q + 896 + 1 = q + 1 + 896 := by omega
    rw [ea] at ev
    rw [ev, ev']
    refine ⟨?_, ?_⟩
    · rw [eB, Nat.mul_assoc, ← Nat.pow_add, Nat.mul_assoc, ← Nat.pow_add, e9]
    · rw [i64]; exact iB hq ht

theorem down_up {s : Nat} (h : s < single.infRung) : downR (upR s) = some s := by
  rw [i32] at h
  unfold upR
  by_cases h0 : s = 0
  · subst h0; simp [downR]
  rw [if_neg h0]
  by_cases h1 : s < 2 ^ 23
  · rw [if_pos h1]
    have hl : s.log2 < 23 := (Nat.log2_lt h0).2 h1
    have lo : 2 ^ s.log2 ≤ s := Nat.log2_self_le h0
    have hi : s < 2 ^ (s.log2 + 1) := Nat.lt_log2_self
    have e52 : 2 ^ s.log2 * 2 ^ (52 - s.log2) = 2 ^ 52 := by rw [← Nat.pow_add]; congr 1; omega
    have lo' := Nat.mul_le_mul_right (2 ^ (52 - s.log2)) lo
    have hi' := Nat.mul_lt_mul_of_pos_right hi (Nat.two_pow_pos (52 - s.log2))
    rw [e52] at lo'
    rw [Nat.pow_succ, Nat.mul_assoc, Nat.mul_comm 2, ← Nat.mul_assoc, e52] at hi'
    unfold downR
    have d1 : ((874 + s.log2) * 2 ^ 52 + (s * 2 ^ (52 - s.log2) - 2 ^ 52)) / 2 ^ 52 = 874 + s.log2 := by omega
    have d2 : ((874 + s.log2) * 2 ^ 52 + (s * 2 ^ (52 - s.log2) - 2 ^ 52)) % 2 ^ 52 = s * 2 ^ (52 - s.log2) - 2 ^ 52 := by omega
    rw [d1, d2, if_neg (by omega), if_neg (by omega), Nat.sub_add_cancel lo']
    have e3 : 926 - (874 + s.log2) = 52 - s.log2 := by omega
    rw [e3, Nat.mul_mod_left, Nat.mul_div_cancel _ (Nat.two_pow_pos _), if_pos ⟨by omega, by omega, rfl⟩]
  · rw [if_neg h1]
    obtain ⟨q, t, ht, rfl⟩ : ∃ q t, t < 2 ^ 23 ∧ s = (q + 1) * 2 ^ 23 + t := by
      rcases rung_cases single s with h2 | ⟨q, t, h3, h4⟩
      · rw [b32] at h2; exact absurd h2 h1
      · rw [b32] at h3 h4; exact ⟨q, t, h3, h4⟩
    have d1 : ((q + 1) * 2 ^ 23 + t) / 2 ^ 23 = q + 1 := by omega
    have d2 : ((q + 1) * 2 ^ 23 + t) % 2 ^ 23 = t := by omega
    rw [d1, d2]
    have hq : q ≤ 253 := qB q t h
    clear d1 d2 h0 h1 h
    unfold downR
    have e1 : ((q + 1 + 896) * 2 ^ 52 + t * 2 ^ 29) / 2 ^ 52 = q + 897 := by omega
    have e2 : ((q + 1 + 896) * 2 ^ 52 + t * 2 ^ 29) % 2 ^ 52 = t * 2 ^ 29 := by omega
    have e3 : ((q + 1 + 896) * 2 ^ 52 + t * 2 ^ 29) % 2 ^ 29 = 0 := by omega
    rw [e1, e2, e3, if_neg (by omega), if_pos ⟨by omega, by omega, rfl⟩, fB]

theorem down_val {r s : Nat} (h : downR r = some s) : valR double r = valR single s * 2 ^ k925 ∧ s < single.infRung := by
  unfold downR at h
  split at h
  · cases h; rename_i h0; subst h0; exact ⟨zG _, by decide⟩
  split at h
  · rename_i h0 h1
    obtain ⟨a, b, c⟩ := h1
    cases h
    obtain ⟨q, t, hq, ht, hr⟩ := rB r a b c
    clear a b c h0
    subst hr
    have e1 : (((q + 897) * 2 ^ 52 + t * 2 ^ 29) / 2 ^ 52 - 896) = q + 1 := by omega
    have e2 : ((q + 897) * 2 ^ 52 + t * 2 ^ 29) % 2 ^ 52 / 2 ^ 29 = t := by omega
    rw [e1, e2]
    have ev := @valR_high double (q + 896) (t * 2 ^ 29) (by rw [b64]; exact tB ht)
    have ev' := @valR_high single q t (by rw [b32]; exact ht)
    rw [b64] at ev
    rw [b32] at ev'
    have ea : q + 896 + 1 = q + 897 := by omega
    rw [ea] at ev
    rw [ev, ev']
    refine ⟨?_, by rw [i32]; exact nB hq ht⟩
    rw [eB, Nat.mul_assoc, ← Nat.pow_add, Nat.mul_assoc, ← Nat.pow_add, e9]
  split at h
  · rename_i h0 h1 h2
    obtain ⟨a, b, c⟩ := h2
    cases h
    obtain ⟨e, t, he, ht, hr⟩ : ∃ e t, e ≤ 22 ∧ t < 2 ^ 52 ∧ r = (e + 874) * 2 ^ 52 + t := ⟨r / 2 ^ 52 - 874, r % 2 ^ 52, by omega, by omega, by omega⟩
    subst hr
    have e1 : ((e + 874) * 2 ^ 52 + t) / 2 ^ 52 = e + 874 := by omega
    have e2 : ((e + 874) * 2 ^ 52 + t) % 2 ^ 52 = t := by omega
    rw [e1, e2] at c ⊢
    have e3 : 926 - (e + 874) = 52 - e := by omega
    rw [e3] at c ⊢
    have hd := Nat.div_add_mod (t + 2 ^ 52) (2 ^ (52 - e))
    rw [c, Nat.add_zero] at hd
    generalize (t + 2 ^ 52) / 2 ^ (52 - e) = k at hd ⊢
    have hk : k < 2 ^ 23 := kB he ht hd
    have ev := @valR_high double (e + 873) t (by rw [b64]; exact ht)
    rw [b64] at ev
    have ea : e + 873 + 1 = e + 874 := by omega
    rw [ea] at ev
    rw [ev, valR_low (f := single) (by rw [b32]; exact hk)]
    refine ⟨?_, by rw [i32]; exact sB hk⟩
    have e9 : 52 - e + (e + 873) = k925 := by rw [k925_eq]; clear ev hd h1 h0 ea e1 e2 e3 a b c; omega
    rw [Nat.add_comm (2 ^ 52) t, ← hd, Nat.mul_comm (2 ^ (52 - e)), Nat.mul_assoc, ← Nat.pow_add, e9]
  · cases h

theorem down_none {r s : Nat} (h : downR r = none) (hs : s < single.infRung) : valR double r ≠ valR single s * 2 ^ k925 := by
  intro e
  have : r = upR s := valR_inj (e.trans (up_val hs).1.symm)
  rw [this, down_up hs] at h
  cases h
theorem up_down {r s : Nat} (h : downR r = some s) : upR s = r :=
  valR_inj (((up_val (down_val h).2).1).trans (down_val h).1.symm)
end Go.Proofs.Ytlkinkbdhoejiaa

namespace Go.Proofs.Ytlkinkbdhoejiaa
open Ieee

theorem word_rng {f : Format} {s : Bool} {r : Nat} (h : r < f.signWeight) : rng f (f.word s r) = r := by
  unfold rng Format.word
  cases s <;> simp [Nat.mod_eq_of_lt h]
theorem word_sgn {f : Format} {s : Bool} {r : Nat} (h : r < f.signWeight) : sgn f (f.word s r) = s := by
  have hp : 0 < f.signWeight := by omega
  unfold sgn Format.word
  cases s
  · simp [Nat.div_eq_of_lt h]
  · simp [Nat.add_div_left _ hp, Nat.div_eq_of_lt h]
theorem word_self {f : Format} {w : Nat} (h : w < 2 * f.signWeight) : f.word (sgn f w) (rng f w) = w := by
  have hp : 0 < f.signWeight := Nat.two_pow_pos _
  have hd := Nat.div_add_mod w f.signWeight
  have h2 : w / f.signWeight < 2 := (Nat.div_lt_iff_lt_mul hp).2 h
  unfold Format.word sgn rng
  rcases Nat.lt_or_ge (w / f.signWeight) 1 with h1 | h1
  · have h0 : w / f.signWeight = 0 := Nat.lt_one_iff.1 h1
    rw [h0, Nat.mul_zero, Nat.zero_add] at hd
    rw [h0, hd]; rfl
  · have h0 : w / f.signWeight = 1 := Nat.le_antisymm (Nat.le_of_lt_succ h2) h1
    rw [h0, Nat.mul_one] at hd
    rw [h0]; exact hd
theorem inf_lt (f : Format) : f.infRung < f.signWeight := f.infRung_lt

/-- The float of 64 bits with the value of one of 32 (no NaN). -/
def wide (g : Nat) : Nat := double.word (sgn single g) (if rng single g = single.infRung then double.infRung else upR (rng single g))
/-- The float of 32 bits with the value of one of 64 (no NaN), if there is one. -/
def nar (w : Nat) : Option Nat := if rng double w = double.infRung then some (single.word (sgn double w) single.infRung) else (downR (rng double w)).map (single.word (sgn double w))

theorem write_wide {g : Nat} (h : rng single g < single.infRung) : ∃ s m e, single.read g = .number s m e ∧ double.write (.number s m e) = wide g := by
  obtain ⟨m, e, hr, hv⟩ := read_num h
  refine ⟨_, _, _, hr, ?_⟩
  have hne : rng single g ≠ single.infRung := by omega
  unfold wide
  rw [if_neg hne]
  show double.nearest _ m _ = _
  by_cases h0 : rng single g = 0
  · rw [h0, valR_zero] at hv
    have hm : m = 0 := by
      rcases Nat.mul_eq_zero.1 hv with h1 | h1
      · exact h1
      · have := Nat.two_pow_pos e; omega
    subst hm
    rw [h0]; simp [Format.nearest, upR]
  · have hm : 0 < m := by
      rcases Nat.eq_zero_or_pos m with h1 | h1
      · subst h1; rw [Nat.zero_mul] at hv; exact absurd (valR_eq_zero.1 hv.symm) h0
      · exact h1
    refine nearest_exact double _ m _ (upR (rng single g)) (e + k925) 0 hm ?_ ?_ (up_val h).2
    · rw [l64, l32, k925_eq]; omega
    · rw [(up_val h).1, Nat.pow_add, ← Nat.mul_assoc, hv, Nat.pow_zero, Nat.mul_one]

theorem write_down {w s : Nat} (h : rng double w < double.infRung) (hd : downR (rng double w) = some s) : ∃ t m e, double.read w = .number t m e ∧ single.write (.number t m e) = single.word (sgn double w) s := by
  obtain ⟨m, e, hr, hv⟩ := read_num h
  refine ⟨_, _, _, hr, ?_⟩
  show single.nearest _ m _ = _
  by_cases h0 : rng double w = 0
  · rw [h0, valR_zero] at hv
    have hm : m = 0 := by
      rcases Nat.mul_eq_zero.1 hv with h1 | h1
      · exact h1
      · have := Nat.two_pow_pos e; omega
    subst hm
    rw [h0] at hd
    have : s = 0 := by simpa [downR] using hd.symm
    subst this
    simp [Format.nearest]
  · have hm : 0 < m := by
      rcases Nat.eq_zero_or_pos m with h1 | h1
      · subst h1; rw [Nat.zero_mul] at hv; exact absurd (valR_eq_zero.1 hv.symm) h0
      · exact h1
    refine nearest_exact single _ m _ s e k925 hm ?_ ?_ (down_val hd).2
    · rw [l64, l32, k925_eq]; omega
    · rw [hv, (down_val hd).1]

theorem up_lt {g : Nat} (h : rng single g < single.infRung) : upR (rng single g) < double.signWeight := Nat.lt_trans (up_val h).2 (inf_lt _)

theorem wide_lt (g : Nat) (h : ¬ isN single g) : wide g < 2 ^ 64 := by
  unfold wide
  refine double.word_lt _ ?_
  by_cases h1 : rng single g = single.infRung
  · rw [if_pos h1]; exact inf_lt _
  · rw [if_neg h1]; exact up_lt (by unfold isN at h; omega)
theorem wide_rng (g : Nat) (h : ¬ isN single g) : rng double (wide g) = (if rng single g = single.infRung then double.infRung else upR (rng single g)) := by
  unfold wide
  refine word_rng ?_
  by_cases h1 : rng single g = single.infRung
  · rw [if_pos h1]; exact inf_lt _
  · rw [if_neg h1]; exact up_lt (by unfold isN at h; omega)
theorem wide_sgn (g : Nat) (h : ¬ isN single g) : sgn double (wide g) = sgn single g := by
  unfold wide
  refine word_sgn ?_
  by_cases h1 : rng single g = single.infRung
  · rw [if_pos h1]; exact inf_lt _
  · rw [if_neg h1]; exact up_lt (by unfold isN at h; omega)
theorem wide_not_nan (g : Nat) (h : ¬ isN single g) : ¬ isN double (wide g) := by
  unfold isN
  rw [wide_rng g h]
  by_cases h1 : rng single g = single.infRung
  · rw [if_pos h1]; omega
  · rw [if_neg h1]; have := (up_val (s := rng single g) (by unfold isN at h; omega)).2; omega

/-- A float that no one of 32 bits has the value of is none's. -/
theorem nar_none_ne {w g : Nat} (hw : ¬ isN double w) (hn : nar w = none) (hg : ¬ isN single g) : double.order (wide g) w ≠ some .eq := by
  rw [order_num bi64 (wide_not_nan g hg) hw]
  intro h
  have h' := Int.compare_eq_eq.1 (Option.some.inj h)
  have hr : rng double (wide g) = rng double w := by
    unfold sr at h'
    revert h'
    cases sgn double (wide g) <;> cases sgn double w <;> simp only [if_true, if_false, Bool.false_eq_true] <;> omega
  unfold nar at hn
  split at hn
  · cases hn
  · rename_i hi
    rw [Option.map_eq_none_iff] at hn
    rw [wide_rng g hg] at hr
    by_cases h1 : rng single g = single.infRung
    · rw [if_pos h1] at hr; exact hi hr.symm
    · rw [if_neg h1] at hr
      have hs : rng single g < single.infRung := by unfold isN at hg; omega
      rw [← hr, down_up hs] at hn
      cases hn
/-- One that has: widened it is the float. -/
theorem nar_some_wide {w g : Nat} (hlt : w < 2 ^ 64) (hn : nar w = some g) : wide g = w ∧ ¬ isN single g ∧ g < 2 ^ 32 := by
  have hself : double.word (sgn double w) (rng double w) = w := word_self (by rw [s64]; omega)
  unfold nar at hn
  split at hn
  · rename_i hi
    cases hn
    have e1 : rng single (single.word (sgn double w) single.infRung) = single.infRung := word_rng (inf_lt _)
    have e2 : sgn single (single.word (sgn double w) single.infRung) = sgn double w := word_sgn (inf_lt _)
    refine ⟨?_, by unfold isN; omega, single.word_lt _ (inf_lt _)⟩
    unfold wide
    rw [if_pos e1, e2, ← hi, hself]
  · rename_i hi
    obtain ⟨s, hd, rfl⟩ := Option.map_eq_some_iff.1 hn
    have hs := (down_val hd).2
    have hs' : s < single.signWeight := Nat.lt_trans hs (inf_lt _)
    have e1 : rng single (single.word (sgn double w) s) = s := word_rng hs'
    have e2 : sgn single (single.word (sgn double w) s) = sgn double w := word_sgn hs'
    refine ⟨?_, by unfold isN; omega, single.word_lt _ hs'⟩
    unfold wide
    rw [if_neg (by omega), e1, e2, up_down hd, hself]
theorem nar_wide {g : Nat} (hlt : g < 2 ^ 32) (hg : ¬ isN single g) : nar (wide g) = some g := by
  have hself : single.word (sgn single g) (rng single g) = g := word_self (by rw [s32]; omega)
  unfold nar
  rw [wide_rng g hg, wide_sgn g hg]
  by_cases h1 : rng single g = single.infRung
  · rw [if_pos h1, if_pos rfl, ← h1, hself]
  · have hs : rng single g < single.infRung := by unfold isN at hg; omega
    rw [if_neg h1, if_neg (by have := (up_val hs).2; omega), down_up hs, Option.map_some, hself]

theorem order_self {w : Nat} (h : ¬ isN double w) : double.order w w = some .eq := by
  rw [order_num bi64 h h, Int.compare_eq_eq.2 rfl]
end Go.Proofs.Ytlkinkbdhoejiaa
