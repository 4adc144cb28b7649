
/- The document's Narrow answers what the program's does. -/
import Derived.Test.YtmaaacaifpgpaaaGreatDoorNx
set_option maxRecDepth 100000
namespace Go.Proofs.YtmaaacaifpgpaaaGreatDoor
open Go.RowKit Go.Lib Ieee

theorem or_u32 (a b : Nat) (ha : a < 4294967296) (hb : b < 4294967296) : bits .or .u32 (a : Int) (b : Int) = ((a ||| b : Nat) : Int) := by
  have hx : a ||| b < 2 ^ 32 := Nat.or_lt_two_pow (by omega) (by omega)
  have h1 : (BitVec.ofInt 32 (a : Int)).toNat = a := by
    rw [BitVec.ofInt_natCast, BitVec.toNat_ofNat]; exact Nat.mod_eq_of_lt (by omega)
  have h2 : (BitVec.ofInt 32 (b : Int)).toNat = b := by
    rw [BitVec.ofInt_natCast, BitVec.toNat_ofNat]; exact Nat.mod_eq_of_lt (by omega)
  show IntKind.u32.wrap ((BitVec.ofInt 32 (a : Int) ||| BitVec.ofInt 32 (b : Int)).toNat : Int) = _
  rw [BitVec.toNat_or, h1, h2]
  simp only [IntKind.wrap, IntKind.bits, IntKind.signed]
  simp
  omega
theorem or_at (s y i : Nat) (hy : y < 2 ^ i) : s * 2 ^ i ||| y = s * 2 ^ i + y := by
  have e := Nat.shiftLeft_add_eq_or_of_lt hy s
  rw [Nat.shiftLeft_eq] at e
  exact e.symm
theorem or_sign (s y : Nat) (hs : s ≤ 1) (hy : y < 2 ^ 31) : bits .or .u32 ((s : Int) * 2147483648) (y : Int) = ((s * 2 ^ 31 + y : Nat) : Int) := by
  rw [show (s : Int) * 2147483648 = ((s * 2 ^ 31 : Nat) : Int) from by omega, or_u32 _ _ (by omega) (by omega), or_at s y 31 hy]
theorem word_s (s : Bool) (r : Nat) : single.word s r = s.toNat * 2 ^ 31 + r := by
  cases s <;> simp [Format.word, s32]

/-- A float's parts. -/
structure Parts (b s x f : Nat) : Prop where
  hs : b / 2 ^ 63 = s
  hx : b / 2 ^ 52 % 2 ^ 11 = x
  hf : b % 2 ^ 52 = f
  s1 : s ≤ 1
  x1 : x < 2048
  f1 : f < 2 ^ 52
  r : rng double b = x * 2 ^ 52 + f
  g : (sgn double b).toNat = s
theorem parts (b : Nat) (hb : b < 2 ^ 64) : Parts b (b / 2 ^ 63) (b / 2 ^ 52 % 2 ^ 11) (b % 2 ^ 52) := by
  refine ⟨rfl, rfl, rfl, by omega, by omega, by omega, ?_, ?_⟩
  · unfold rng
    rw [s64]; omega
  · unfold sgn
    rw [s64]
    have : b / 2 ^ 63 < 2 := by omega
    generalize b / 2 ^ 63 = k at *
    match k, this with
    | 0, _ => rfl
    | 1, _ => rfl

theorem narB_word {b s x f g : Nat} (h : Parts b s x f) (hn : ¬ isN double b) (hi : x * 2 ^ 52 + f ≠ double.infRung) (hd : downR (x * 2 ^ 52 + f) = some g) : narB b = (s * 2 ^ 31 + g, true) := by
  have e : nar b = some (s * 2 ^ 31 + g) := by
    unfold nar
    rw [h.r, if_neg hi, hd, Option.map_some, word_s, h.g]
  unfold narB
  rw [if_neg hn, e]
theorem narB_no {b s x f : Nat} (h : Parts b s x f) (hn : ¬ isN double b) (hi : x * 2 ^ 52 + f ≠ double.infRung) (hd : downR (x * 2 ^ 52 + f) = none) : narB b = (0, false) := by
  have e : nar b = none := by
    unfold nar
    rw [h.r, if_neg hi, hd, Option.map_none]
  unfold narB
  rw [if_neg hn, e]
theorem narB_inf {b s x f : Nat} (h : Parts b s x f) (hn : ¬ isN double b) (hi : x * 2 ^ 52 + f = double.infRung) : narB b = (s * 2 ^ 31 + 255 * 2 ^ 23, true) := by
  have e : nar b = some (s * 2 ^ 31 + 255 * 2 ^ 23) := by
    unfold nar
    rw [h.r, if_pos hi, word_s, h.g, i32]
  unfold narB
  rw [if_neg hn, e]

theorem and29 (f : Nat) (hf : f < 2 ^ 52) : bits .and .u64 (f : Int) 536870911 = ((f % 2 ^ 29 : Nat) : Int) := by
  rw [show (536870911 : Int) = ((536870911 : Nat) : Int) from by decide, bits_and_u64_nat _ _ (by omega) (by omega)]
  rw [show (536870911 : Nat) = 2 ^ 29 - 1 from by decide, Nat.and_two_pow_sub_one_eq_mod]
theorem or52 (f : Nat) (hf : f < 2 ^ 52) : bits .or .u64 (f : Int) 4503599627370496 = ((f + 2 ^ 52 : Nat) : Int) := by
  rw [show (4503599627370496 : Int) = ((2 ^ 52 : Nat) : Int) from by decide, bits_or_u64_nat _ _ (by omega) (by omega)]
  have e := or_at 1 f 52 hf
  rw [Nat.one_mul] at e
  rw [Nat.or_comm, e, Nat.add_comm]
theorem downR_at (x f : Nat) (hf : f < 2 ^ 52) : downR (x * 2 ^ 52 + f) =
    if x = 0 ∧ f = 0 then some 0
    else if 897 ≤ x ∧ x ≤ 1150 ∧ f % 2 ^ 29 = 0 then some ((x - 896) * 2 ^ 23 + f / 2 ^ 29)
    else if x < 897 ∧ 874 ≤ x ∧ (f + 2 ^ 52) % 2 ^ (926 - x) = 0 then some ((f + 2 ^ 52) / 2 ^ (926 - x))
    else none := by
  unfold downR
  have e1 : (x * 2 ^ 52 + f) / 2 ^ 52 = x := by omega
  have e2 : (x * 2 ^ 52 + f) % 2 ^ 52 = f := by omega
  have e3 : (x * 2 ^ 52 + f) % 2 ^ 29 = f % 2 ^ 29 := by omega
  rw [e1, e2, e3]
  by_cases h : x = 0 ∧ f = 0
  · rw [if_pos h, if_pos (by omega)]
  · rw [if_neg h, if_neg (by omega)]

theorem pow_wrap (d : Nat) (h : d ≤ 52) : IntKind.u64.wrap ((2 : Int) ^ d) = ((2 ^ d : Nat) : Int) := by
  have e : ((2 : Int) ^ d) = ((2 ^ d : Nat) : Int) := by simp
  rw [e, IntKind.wrap_u64]
  have h1 : 2 ^ d ≤ 2 ^ 52 := Nat.pow_le_pow_right (by omega) h
  clear e
  generalize 2 ^ d = t at *
  omega
theorem f29 {f : Nat} (h : f < 2 ^ 52) : f / 2 ^ 29 < 2 ^ 23 := by omega
theorem x23 {x : Nat} (h : x ≤ 1150) : (x - 896) * 2 ^ 23 < 2 ^ 31 := by omega
theorem q32 {q : Nat} (h : q < 2 ^ 23) : (q : Int) % 4294967296 = (q : Int) := by omega
theorem s31 {s y : Nat} (hs : s ≤ 1) (hy : y < 2 ^ 31) : s * 2 ^ 31 + y < 4294967296 := by omega
theorem y32 {y : Nat} (hy : y < 2 ^ 23) : y < 4294967296 := by omega
theorem s23 (s k : Nat) : s * 2 ^ 31 + k * 2 ^ 23 = (s * 2 ^ 8 + k) * 2 ^ 23 := by omega
theorem pow_wrap1 (d : Nat) (h : d ≤ 52) : IntKind.u64.wrap (((2 ^ d : Nat) : Int) - 1) = ((2 ^ d - 1 : Nat) : Int) := by
  rw [IntKind.wrap_u64]
  have : 2 ^ d ≤ 2 ^ 52 := Nat.pow_le_pow_right (by omega) h
  have : 0 < 2 ^ d := Nat.two_pow_pos d
  omega
theorem and_pow (a d : Nat) (ha : a < 2 ^ 53) (h : d ≤ 52) : bits .and .u64 (a : Int) ((2 ^ d - 1 : Nat) : Int) = ((a % 2 ^ d : Nat) : Int) := by
  have : 2 ^ d ≤ 2 ^ 52 := Nat.pow_le_pow_right (by omega) h
  rw [bits_and_u64_nat _ _ (by omega) (by omega), Nat.and_two_pow_sub_one_eq_mod]

theorem rnarrow_num (w : World) (b s x f : Nat) (hb : b < 2 ^ 64) (h : Parts b s x f) (hn : ¬ isN double b) :
    Calls Tryz.prog 37 #[.float .f64 b] w fun e w' => e = .returned (.tuple #[.int .u32 ((narB b).1 : Nat), .bool (narB b).2]) ∧ w' = w := by
  have hN := risnan_any w b hb
  rw [decide_eq_false hn] at hN
  have hB := rbits_any w b
  have hs : (b : Int) / 9223372036854775808 = (s : Int) := by have := h.hs; omega
  have hx : bits .and .u64 ((b : Int) / 4503599627370496) 2047 = (x : Int) := by
    have := and2047 b hb
    rw [h.hx, show ((b / 2 ^ 52 : Nat) : Int) = (b : Int) / 4503599627370496 from by omega] at this
    exact this
  have hf : bits .and .u64 (b : Int) 4503599627370495 = (f : Int) := by rw [and52 b hb, h.hf]
  have s1 := h.s1
  have f1 := h.f1
  have x1 := h.x1
  have hfin : isN double b ↔ (x = 2047 ∧ f ≠ 0) := by rw [isN_bits, h.hx, h.hf]
  have hd := downR_at x f f1
  have hinf : x * 2 ^ 52 + f = double.infRung ↔ x = 2047 := by
    rw [i64]
    constructor
    · intro e; omega
    · intro e
      by_cases e2 : f = 0
      · omega
      · exact absurd (hfin.2 ⟨e, e2⟩) hn
  by_cases c1 : x = 2047
  · have := rn_inf w b s x f hs hx hf (by omega) (by omega) (by omega) hN hB
    rw [show (2139095040 : Int) = ((255 * 2 ^ 23 : Nat) : Int) from by decide, or_sign s _ s1 (by decide)] at this
    rw [narB_inf h hn (hinf.2 c1)]
    exact this
  · have hi : x * 2 ^ 52 + f ≠ double.infRung := fun e => c1 (hinf.1 e)
    by_cases c2 : x = 0 ∧ f = 0
    · rw [if_pos c2] at hd
      rw [narB_word h hn hi hd]
      have := rn_nought w b s x f hs hx hf (by omega) (by omega) (by omega) (by omega) hN hB
      rw [show (s : Int) * 2147483648 = ((s * 2 ^ 31 + 0 : Nat) : Int) from by omega] at this
      exact this
    · rw [if_neg c2] at hd
      by_cases c3 : 897 ≤ x ∧ x ≤ 1150
      · by_cases c4 : f % 2 ^ 29 = 0
        · rw [if_pos ⟨c3.1, c3.2, c4⟩] at hd
          rw [narB_word h hn hi hd]
          have := rn_norm w b s x f hs hx hf (by omega) (by omega) (by omega) (by omega) (by omega) (by omega) (by rw [and29 f f1, c4]; rfl) hN hB
          have e1 : ((x : Int) - 1023 + 127) * 8388608 = (((x - 896) * 2 ^ 23 : Nat) : Int) := by omega
          have e2 : (f : Int) / 536870912 = ((f / 2 ^ 29 : Nat) : Int) := by omega
          have k1 : (x - 896) * 2 ^ 23 < 2 ^ 31 := x23 c3.2
          have k2 : f / 2 ^ 29 < 2 ^ 23 := f29 f1
          rw [e1, e2, or_sign s _ s1 k1, or_u32 _ _ (s31 s1 k1) (y32 k2)] at this
          have e3 := s23 s (x - 896)
          rw [e3, or_at _ _ 23 k2, ← e3, Nat.add_assoc] at this
          exact this
        · rw [if_neg (fun t => c4 t.2.2), if_neg (fun t => by omega)] at hd
          rw [narB_no h hn hi hd]
          exact rn_no2 w b s x f hs hx hf (by omega) (by omega) (by omega) (by omega) (by rw [and29 f f1, beq_eq_false_iff_ne]; omega) hN hB
      · rw [if_neg (fun t => c3 ⟨t.1, t.2.1⟩)] at hd
        by_cases c5 : 874 ≤ x ∧ x < 897
        · have hdp : (926 - (x : Int)).toNat = 926 - x := by omega
          have hle : 926 - x ≤ 52 := by omega
          have hge : 30 ≤ 926 - x := by omega
          have ha := or52 f f1
          have ht := pow_wrap (926 - x) hle
          have hm := pow_wrap1 (926 - x) hle
          have hand := and_pow (f + 2 ^ 52) (926 - x) (by omega) hle
          by_cases c6 : (f + 2 ^ 52) % 2 ^ (926 - x) = 0
          · rw [if_pos ⟨c5.2, c5.1, c6⟩] at hd
            rw [narB_word h hn hi hd]
            have := rn_low w b s x f hs hx hf (by omega) (by omega) (by omega) (by omega) _ ha _ _ (by rw [hdp]; exact ht) hm (by rw [hand, c6]; rfl) hN hB
            have hpow : 2 ^ 30 ≤ 2 ^ (926 - x) := Nat.pow_le_pow_right (by omega) hge
            have hq : (f + 2 ^ 52) / 2 ^ (926 - x) < 2 ^ 23 := by
              refine (Nat.div_lt_iff_lt_mul (Nat.two_pow_pos _)).2 ?_
              have := Nat.mul_le_mul_left (2 ^ 23) hpow
              omega
            have e1 : (((f + 2 ^ 52 : Nat) : Int) / 2 ^ (926 - (x : Int)).toNat % 4294967296) = (((f + 2 ^ 52) / 2 ^ (926 - x) : Nat) : Int) := by
              rw [hdp, show ((2 : Int) ^ (926 - x)) = ((2 ^ (926 - x) : Nat) : Int) from by simp, ← Int.natCast_ediv, q32 hq]
            rw [e1, or_sign s _ s1 (by omega)] at this
            exact this
          · rw [if_neg (fun t => c6 t.2.2)] at hd
            rw [narB_no h hn hi hd]
            exact rn_no4 w b s x f hs hx hf (by omega) (by omega) (by omega) (by omega) _ ha _ _ (by rw [hdp]; exact ht) hm (by rw [hand, beq_eq_false_iff_ne]; omega) hN hB
        · rw [if_neg (fun t => c5 ⟨t.2.1, t.1⟩)] at hd
          rw [narB_no h hn hi hd]
          by_cases c7 : x = 0
          · exact rn_no1 w b s x f hs hx hf (by omega) (by omega) (by omega) (by omega) hN hB
          · by_cases c8 : 1150 < x
            · exact rn_no3 w b s x f hs hx hf (by omega) (by omega) (by omega) (by omega) hN hB
            · exact rn_no5 w b s x f hs hx hf (by omega) (by omega) (by omega) (by omega) hN hB

theorem rnarrow_any (w : World) (b : Nat) (hb : b < 2 ^ 64) :
    Calls Tryz.prog 37 #[.float .f64 b] w fun e w' => e = .returned (.tuple #[.int .u32 ((narB b).1 : Nat), .bool (narB b).2]) ∧ w' = w := by
  by_cases hn : isN double b
  · have hN := risnan_any w b hb
    have e : narB b = (2143289344, true) := by unfold narB; rw [if_pos hn]
    rw [e]
    rw [decide_eq_true hn] at hN
    clear e hn hb
    go_enter Tryz.func37, Tryz.ntmps37
    go_wp2_with fail
    refine hN.mono ?_
    rintro e w1 ⟨rfl, rfl⟩
    clear hN
    go_wp2
    go_ret2
    exact ⟨rfl, rfl⟩
  · exact rnarrow_num w b _ _ _ hb (parts b hb) hn
end Go.Proofs.YtmaaacaifpgpaaaGreatDoor
