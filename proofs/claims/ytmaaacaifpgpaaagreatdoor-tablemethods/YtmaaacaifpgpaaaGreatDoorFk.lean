
/- What flt's calls on keys answer. -/
import Derived.Test.YtmaaacaifpgpaaaGreatDoorCo
import Derived.Test.YtmaaacaifpgpaaaGreatDoorProg
import Derived.WalkKit
import Derived.WalkLawsBesides
import Derived.Laws.Externs
import Derived.Laws.Bits64b
namespace Go.Proofs.YtmaaacaifpgpaaaGreatDoor
open Go.RowKit Go.Lib Ieee

@[go_sem] theorem ext74 (n : Int) (w : World) : (callFunc 74 #[.int .u64 n]).run Tryz.prog w = .ok (.value (.float .f64 n.toNat)) w := by
  rw [run_callFunc_extern Tryz.func74 (by kernel_rfl) (by kernel_rfl) (by kernel_rfl) (e := Extern.MathFloatBits.float64frombits) (by kernel_rfl)]; rfl
@[go_sem] theorem ext54 (b : Nat) (w : World) : (callFunc 54 #[.float .f64 b]).run Tryz.prog w = .ok (.value (.int .u64 b)) w := by
  rw [run_callFunc_extern Tryz.func54 (by kernel_rfl) (by kernel_rfl) (by kernel_rfl) (e := Extern.MathFloatBits.float64bits) (by kernel_rfl)]; rfl
theorem isnan_any (w : World) (b : Nat) :
    Calls Tryz.prog 85 #[.float .f64 b] w fun e w' => e = .returned (.bool (decide (isN double b))) ∧ w' = w := by
  go_enter Tryz.func85, Tryz.ntmps85
  go_wp2
  go_ret
  refine ⟨?_, rfl⟩
  by_cases h : isN double b
  · have : FloatKind.f64.format.order b b = none := order_nan bi64 (.inl h)
    simp [this, h]
  · have : FloatKind.f64.format.order b b = some .eq := order_self h
    simp [this, h]

def canonB (b : Nat) : Nat := if isN double b then 9221120237041090561 else b

theorem canonB_lt {b : Nat} (h : b < 2 ^ 64) : canonB b < 2 ^ 64 := by
  unfold canonB; split <;> omega
def keyB (b : Nat) : Nat := if 2 ^ 63 ≤ canonB b then 2 ^ 64 - 1 - canonB b else canonB b + 2 ^ 63
def unB (k : Nat) : Nat := if 2 ^ 63 ≤ k then k - 2 ^ 63 else 2 ^ 64 - 1 - k
def cmpN (a b : Nat) : Int := if a < b then -1 else if b < a then 1 else 0
theorem keyB_lt {b : Nat} (h : b < 2 ^ 64) : keyB b < 2 ^ 64 := by
  have := canonB_lt h
  unfold keyB; split <;> omega
theorem unB_lt {k : Nat} (h : k < 2 ^ 64) : unB k < 2 ^ 64 := by
  unfold unB; split <;> omega

theorem ret_b {a b : Bool} (h : a = b) : Ending.returned (.bool a) = .returned (.bool b) := by rw [h]
theorem ret_f {k : FloatKind} {a b : Nat} (h : a = b) : Ending.returned (.float k a) = .returned (.float k b) := by rw [h]
theorem ret_i {k : IntKind} {a b : Int} (h : a = b) : Ending.returned (.int k a) = .returned (.int k b) := by rw [h]

theorem not64 (c : Nat) (h : c < 2 ^ 64) : bits .xor .u64 IntKind.u64.max (c : Int) = ((2 ^ 64 - 1 - c : Nat) : Int) := by
  show IntKind.u64.wrap ((BitVec.ofInt 64 IntKind.u64.max ^^^ BitVec.ofInt 64 (c : Int)).toNat : Int) = _
  have h1 : BitVec.ofInt 64 IntKind.u64.max = BitVec.allOnes 64 := by decide
  have h2 : (BitVec.ofInt 64 (c : Int)).toNat = c := by
    rw [BitVec.ofInt_natCast, BitVec.toNat_ofNat]; exact Nat.mod_eq_of_lt (by omega)
  rw [h1, BitVec.allOnes_xor, BitVec.toNat_not, h2, IntKind.wrap_u64]
  omega
theorem and63_nat (c : Nat) (h : c < 2 ^ 64) : c &&& 2 ^ 63 = if 2 ^ 63 ≤ c then 2 ^ 63 else 0 := by
  by_cases hc : 2 ^ 63 ≤ c
  · have e := Nat.shiftLeft_add_eq_or_of_lt (i := 63) (b := c - 2 ^ 63) (by omega) 1
    rw [Nat.shiftLeft_eq, Nat.one_mul] at e
    have e2 : c = 2 ^ 63 ||| (c - 2 ^ 63) := by omega
    rw [if_pos hc, e2, Nat.and_or_distrib_right, Nat.and_self]
    have e3 : (c - 2 ^ 63) &&& 2 ^ 63 = 0 := by
      have := Nat.and_two_pow_sub_one_eq_mod (c - 2 ^ 63) 63
      rw [Nat.mod_eq_of_lt (by omega)] at this
      rw [← this, Nat.and_assoc, show (2 ^ 63 - 1) &&& 2 ^ 63 = 0 from by decide, Nat.and_zero]
    rw [e3, Nat.or_zero]
  · have := Nat.and_two_pow_sub_one_eq_mod c 63
    rw [Nat.mod_eq_of_lt (by omega)] at this
    rw [if_neg hc, ← this, Nat.and_assoc, show (2 ^ 63 - 1) &&& 2 ^ 63 = 0 from by decide, Nat.and_zero]
theorem and63 (c : Nat) (h : c < 2 ^ 64) : (bits .and .u64 (c : Int) 9223372036854775808 != 0) = decide (2 ^ 63 ≤ c) := by
  rw [show (9223372036854775808 : Int) = ((2 ^ 63 : Nat) : Int) from by decide, bits_and_u64_nat _ _ (by omega) (by omega), and63_nat c h]
  by_cases hc : 2 ^ 63 ≤ c
  · rw [if_pos hc, decide_eq_true hc]; decide
  · rw [if_neg hc, decide_eq_false hc]; decide
theorem or63 (c : Nat) (h : c < 2 ^ 63) : bits .or .u64 (c : Int) 9223372036854775808 = ((c + 2 ^ 63 : Nat) : Int) := by
  rw [show (9223372036854775808 : Int) = ((2 ^ 63 : Nat) : Int) from by decide, bits_or_u64_nat _ _ (by omega) (by omega)]
  have e := Nat.shiftLeft_add_eq_or_of_lt (i := 63) (b := c) h 1
  rw [Nat.shiftLeft_eq, Nat.one_mul] at e
  rw [Nat.or_comm, ← e, Nat.add_comm]
theorem andNot63 (c : Nat) (h : c < 2 ^ 64) (hc : 2 ^ 63 ≤ c) : bits .andNot .u64 (c : Int) 9223372036854775808 = ((c - 2 ^ 63 : Nat) : Int) := by
  show IntKind.u64.wrap ((BitVec.ofInt 64 (c : Int) &&& ~~~ BitVec.ofInt 64 9223372036854775808).toNat : Int) = _
  have h2 : (BitVec.ofInt 64 (c : Int)).toNat = c := by
    rw [BitVec.ofInt_natCast, BitVec.toNat_ofNat]; exact Nat.mod_eq_of_lt (by omega)
  have h3 : (~~~ BitVec.ofInt 64 9223372036854775808).toNat = 2 ^ 63 - 1 := by decide
  rw [BitVec.toNat_and, h2, h3, Nat.and_two_pow_sub_one_eq_mod, IntKind.wrap_u64]
  omega

theorem canon_any (w : World) (b : Nat) :
    Calls Tryz.prog 77 #[.float .f64 b] w fun e w' => e = .returned (.float .f64 (canonB b)) ∧ w' = w := by
  go_enter Tryz.func77, Tryz.ntmps77
  go_wp2_with fail
  refine (isnan_any w b).mono ?_
  rintro e w1 ⟨rfl, rfl⟩
  by_cases h : isN double b
  · simp only [h, decide_true]
    go_wp2
    go_ret
    exact ⟨ret_f (by simp [canonB, h]), rfl⟩
  · simp only [h, decide_false]
    go_wp2
    go_ret
    exact ⟨ret_f (by simp [canonB, h]), rfl⟩

theorem eql_dec (a b : Nat) : ((a : Int) == (b : Int)) = decide (a = b) := by
  by_cases h : a = b
  · subst h; simp
  · simp [h]; omega
theorem cmpN_lt {a b : Nat} (h : a < b) : cmpN a b = -1 := by unfold cmpN; rw [if_pos h]
theorem cmpN_gt {a b : Nat} (h : b < a) : cmpN a b = 1 := by unfold cmpN; rw [if_neg (by omega), if_pos h]
theorem cmpN_eq {a b : Nat} (h : a = b) : cmpN a b = 0 := by unfold cmpN; rw [if_neg (by omega), if_neg (by omega)]

/- The document's. -/
theorem rbits_any (w : World) (b : Nat) :
    Calls Tryz.prog 38 #[.float .f64 b] w fun e w' => e = .returned (.int .u64 b) ∧ w' = w := by
  go_enter Tryz.func38, Tryz.ntmps38
  go_wp2
  go_ret
  exact ⟨rfl, rfl⟩
theorem rfrom_any (w : World) (n : Nat) :
    Calls Tryz.prog 62 #[.int .u64 n] w fun e w' => e = .returned (.float .f64 n) ∧ w' = w := by
  go_enter Tryz.func62, Tryz.ntmps62
  go_wp2
  go_ret
  exact ⟨rfl, rfl⟩
theorem rsame_any (w : World) (a b : Nat) :
    Calls Tryz.prog 63 #[.float .f64 a, .float .f64 b] w fun e w' => e = .returned (.bool (decide (a = b))) ∧ w' = w := by
  rw [← eql_dec]
  go_enter Tryz.func63, Tryz.ntmps63
  go_wp2
  go_ret
  exact ⟨rfl, rfl⟩

theorem and2047 (n : Nat) (hn : n < 2 ^ 64) : bits .and .u64 ((n / 2 ^ 52 : Nat) : Int) 2047 = ((n / 2 ^ 52 % 2 ^ 11 : Nat) : Int) := by
  rw [show (2047 : Int) = ((2047 : Nat) : Int) from by decide, bits_and_u64_nat _ _ (by omega) (by omega)]
  rw [show (2047 : Nat) = 2 ^ 11 - 1 from by decide, Nat.and_two_pow_sub_one_eq_mod]
theorem and52 (n : Nat) (hn : n < 2 ^ 64) : bits .and .u64 (n : Int) 4503599627370495 = ((n % 2 ^ 52 : Nat) : Int) := by
  rw [show (4503599627370495 : Int) = ((4503599627370495 : Nat) : Int) from by decide, bits_and_u64_nat _ _ (by omega) (by omega)]
  rw [show (4503599627370495 : Nat) = 2 ^ 52 - 1 from by decide, Nat.and_two_pow_sub_one_eq_mod]

theorem isN_bits (b : Nat) : isN double b ↔ (b / 2 ^ 52 % 2 ^ 11 = 2047 ∧ b % 2 ^ 52 ≠ 0) := by
  unfold isN rng
  rw [i64, s64]
  omega
theorem risnan_any (w : World) (b : Nat) (hb : b < 2 ^ 64) :
    Calls Tryz.prog 53 #[.float .f64 b] w fun e w' => e = .returned (.bool (decide (isN double b))) ∧ w' = w := by
  have hB := rbits_any w b
  have h1 := and2047 b hb
  have h2 := and52 b hb
  have e : ((b / 2 ^ 52 : Nat) : Int) = (b : Int) / 4503599627370496 := by omega
  rw [e] at h1
  have hi := isN_bits b
  have hN : decide (isN double b) = (((b / 2 ^ 52 % 2 ^ 11 : Nat) : Int) == 2047 && ((b % 2 ^ 52 : Nat) : Int) != 0) := by
    by_cases h : isN double b
    · obtain ⟨p, q⟩ := hi.1 h
      simp only [h, p, decide_true]
      simp
      omega
    · rw [decide_eq_false h]
      have h3 := fun x => h (hi.2 x)
      by_cases p : b / 2 ^ 52 % 2 ^ 11 = 2047
      · have q : b % 2 ^ 52 = 0 := by
          by_cases q : b % 2 ^ 52 = 0
          · exact q
          · exact absurd ⟨p, q⟩ h3
        rw [p, q]; decide
      · have : (((b / 2 ^ 52 % 2 ^ 11 : Nat) : Int) == 2047) = false := by
          rw [beq_eq_false_iff_ne]; omega
        rw [this]; rfl
  rw [hN, ← h1, ← h2]
  clear h1 h2 e hi hN hb
  go_enter Tryz.func53, Tryz.ntmps53
  go_wp2_with fail
  refine hB.mono ?_
  rintro e w1 ⟨rfl, rfl⟩
  clear hB
  go_wp2
  · go_ret
    exact ⟨ret_b (by simp_all), rfl⟩
  · go_ret
    exact ⟨ret_b (by simp_all), rfl⟩

theorem rcanon_any (w : World) (b : Nat) (hb : b < 2 ^ 64) :
    Calls Tryz.prog 61 #[.float .f64 b] w fun e w' => e = .returned (.float .f64 (canonB b)) ∧ w' = w := by
  have hN := risnan_any w b hb
  have hF := rfrom_any w 9221120237041090561
  clear hb
  go_enter Tryz.func61, Tryz.ntmps61
  go_wp2_with fail
  refine hN.mono ?_
  rintro e w1 ⟨rfl, rfl⟩
  clear hN
  by_cases h : isN double b
  · simp only [h, decide_true]
    go_wp2_with fail
    refine hF.mono ?_
    rintro e w2 ⟨rfl, rfl⟩
    go_wp2
    go_ret
    exact ⟨ret_f (by simp [canonB, h]), rfl⟩
  · simp only [h, decide_false]
    go_wp2
    go_ret
    exact ⟨ret_f (by simp [canonB, h]), rfl⟩

end Go.Proofs.YtmaaacaifpgpaaaGreatDoor
