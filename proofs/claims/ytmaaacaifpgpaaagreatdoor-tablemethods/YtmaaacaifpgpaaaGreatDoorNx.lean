
/- The document's Narrow: what it answers of any bits. -/
import Derived.Test.YtmaaacaifpgpaaaGreatDoorNw
set_option maxRecDepth 100000
namespace Go.Proofs.YtmaaacaifpgpaaaGreatDoor
open Go.RowKit Go.Lib Ieee

set_option maxHeartbeats 1000000 in
theorem rn_inf (w : World) (b : Nat) (sg x f : Int) (hs : (b : Int) / 9223372036854775808 = sg) (hx : bits .and .u64 ((b : Int) / 4503599627370496) 2047 = x) (hf : bits .and .u64 (b : Int) 4503599627370495 = f)
    (hs0 : 0 ≤ sg) (hs1 : sg ≤ 1) (hx1 : x = 2047)
    (hN : Calls Tryz.prog 53 #[.float .f64 b] w fun e w' => e = .returned (.bool false) ∧ w' = w) (hB : Calls Tryz.prog 38 #[.float .f64 b] w fun e w' => e = .returned (.int .u64 b) ∧ w' = w) :
    Calls Tryz.prog 37 #[.float .f64 b] w fun e w' => e = .returned (.tuple #[.int .u32 (bits .or .u32 (sg * 2147483648) 2139095040), .bool true]) ∧ w' = w := by
  go_enter Tryz.func37, Tryz.ntmps37
  go_wp2_with fail
  refine hN.mono ?_
  rintro e w1 ⟨rfl, rfl⟩
  go_wp2_with fail
  refine hB.mono ?_
  rintro e w2 ⟨rfl, rfl⟩
  clear hN hB
  go_wp2
  go_ret2
  exact ⟨rfl, rfl⟩

set_option maxHeartbeats 1000000 in
theorem rn_nought (w : World) (b : Nat) (sg x f : Int) (hs : (b : Int) / 9223372036854775808 = sg) (hx : bits .and .u64 ((b : Int) / 4503599627370496) 2047 = x) (hf : bits .and .u64 (b : Int) 4503599627370495 = f)
    (hs0 : 0 ≤ sg) (hs1 : sg ≤ 1) (hx1 : x = 0) (hf2 : f = 0)
    (hN : Calls Tryz.prog 53 #[.float .f64 b] w fun e w' => e = .returned (.bool false) ∧ w' = w) (hB : Calls Tryz.prog 38 #[.float .f64 b] w fun e w' => e = .returned (.int .u64 b) ∧ w' = w) :
    Calls Tryz.prog 37 #[.float .f64 b] w fun e w' => e = .returned (.tuple #[.int .u32 (sg * 2147483648), .bool true]) ∧ w' = w := by
  go_enter Tryz.func37, Tryz.ntmps37
  go_wp2_with fail
  refine hN.mono ?_
  rintro e w1 ⟨rfl, rfl⟩
  go_wp2_with fail
  refine hB.mono ?_
  rintro e w2 ⟨rfl, rfl⟩
  clear hN hB
  go_wp2
  go_ret2
  exact ⟨rfl, rfl⟩

set_option maxHeartbeats 1000000 in
theorem rn_norm (w : World) (b : Nat) (sg x f : Int) (hs : (b : Int) / 9223372036854775808 = sg) (hx : bits .and .u64 ((b : Int) / 4503599627370496) 2047 = x) (hf : bits .and .u64 (b : Int) 4503599627370495 = f)
    (hs0 : 0 ≤ sg) (hs1 : sg ≤ 1) (hf0 : 0 ≤ f) (hf1 : f < 4503599627370496) (hx1 : 897 ≤ x) (hx2 : x ≤ 1150) (h0 : bits .and .u64 f 536870911 = 0)
    (hN : Calls Tryz.prog 53 #[.float .f64 b] w fun e w' => e = .returned (.bool false) ∧ w' = w) (hB : Calls Tryz.prog 38 #[.float .f64 b] w fun e w' => e = .returned (.int .u64 b) ∧ w' = w) :
    Calls Tryz.prog 37 #[.float .f64 b] w fun e w' => e = .returned (.tuple #[.int .u32 (bits .or .u32 (bits .or .u32 (sg * 2147483648) ((x - 1023 + 127) * 8388608)) (f / 536870912)), .bool true]) ∧ w' = w := by
  go_enter Tryz.func37, Tryz.ntmps37
  go_wp2_with fail
  refine hN.mono ?_
  rintro e w1 ⟨rfl, rfl⟩
  go_wp2_with fail
  refine hB.mono ?_
  rintro e w2 ⟨rfl, rfl⟩
  clear hN hB
  go_wp2
  go_ret2
  exact ⟨rfl, rfl⟩

set_option maxHeartbeats 1000000 in
theorem rn_low (w : World) (b : Nat) (sg x f : Int) (hs : (b : Int) / 9223372036854775808 = sg) (hx : bits .and .u64 ((b : Int) / 4503599627370496) 2047 = x) (hf : bits .and .u64 (b : Int) 4503599627370495 = f)
    (hs0 : 0 ≤ sg) (hs1 : sg ≤ 1) (hx1 : 874 ≤ x) (hx2 : x < 897) (a : Int) (ha : bits .or .u64 f 4503599627370496 = a) (t m : Int) (ht : IntKind.u64.wrap (2 ^ (926 - x).toNat) = t) (hm : IntKind.u64.wrap (t - 1) = m) (h0 : bits .and .u64 a m = 0)
    (hN : Calls Tryz.prog 53 #[.float .f64 b] w fun e w' => e = .returned (.bool false) ∧ w' = w) (hB : Calls Tryz.prog 38 #[.float .f64 b] w fun e w' => e = .returned (.int .u64 b) ∧ w' = w) :
    Calls Tryz.prog 37 #[.float .f64 b] w fun e w' => e = .returned (.tuple #[.int .u32 (bits .or .u32 (sg * 2147483648) (a / 2 ^ (926 - x).toNat % 4294967296)), .bool true]) ∧ w' = w := by
  go_enter Tryz.func37, Tryz.ntmps37
  go_wp2_with fail
  refine hN.mono ?_
  rintro e w1 ⟨rfl, rfl⟩
  go_wp2_with fail
  refine hB.mono ?_
  rintro e w2 ⟨rfl, rfl⟩
  clear hN hB
  go_wp2
  go_ret2
  exact ⟨rfl, rfl⟩

set_option maxHeartbeats 1000000 in
theorem rn_no1 (w : World) (b : Nat) (sg x f : Int) (hs : (b : Int) / 9223372036854775808 = sg) (hx : bits .and .u64 ((b : Int) / 4503599627370496) 2047 = x) (hf : bits .and .u64 (b : Int) 4503599627370495 = f)
    (hs0 : 0 ≤ sg) (hs1 : sg ≤ 1) (hx1 : x = 0) (hf2 : ¬ f = 0)
    (hN : Calls Tryz.prog 53 #[.float .f64 b] w fun e w' => e = .returned (.bool false) ∧ w' = w) (hB : Calls Tryz.prog 38 #[.float .f64 b] w fun e w' => e = .returned (.int .u64 b) ∧ w' = w) :
    Calls Tryz.prog 37 #[.float .f64 b] w fun e w' => e = .returned (.tuple #[.int .u32 (0), .bool false]) ∧ w' = w := by
  go_enter Tryz.func37, Tryz.ntmps37
  go_wp2_with fail
  refine hN.mono ?_
  rintro e w1 ⟨rfl, rfl⟩
  go_wp2_with fail
  refine hB.mono ?_
  rintro e w2 ⟨rfl, rfl⟩
  clear hN hB
  go_wp2
  go_ret2
  exact ⟨rfl, rfl⟩

set_option maxHeartbeats 1000000 in
theorem rn_no2 (w : World) (b : Nat) (sg x f : Int) (hs : (b : Int) / 9223372036854775808 = sg) (hx : bits .and .u64 ((b : Int) / 4503599627370496) 2047 = x) (hf : bits .and .u64 (b : Int) 4503599627370495 = f)
    (hs0 : 0 ≤ sg) (hs1 : sg ≤ 1) (hx1 : 897 ≤ x) (hx2 : x ≤ 1150) (h0 : (bits .and .u64 f 536870911 == 0) = false)
    (hN : Calls Tryz.prog 53 #[.float .f64 b] w fun e w' => e = .returned (.bool false) ∧ w' = w) (hB : Calls Tryz.prog 38 #[.float .f64 b] w fun e w' => e = .returned (.int .u64 b) ∧ w' = w) :
    Calls Tryz.prog 37 #[.float .f64 b] w fun e w' => e = .returned (.tuple #[.int .u32 (0), .bool false]) ∧ w' = w := by
  go_enter Tryz.func37, Tryz.ntmps37
  go_wp2_with fail
  refine hN.mono ?_
  rintro e w1 ⟨rfl, rfl⟩
  go_wp2_with fail
  refine hB.mono ?_
  rintro e w2 ⟨rfl, rfl⟩
  clear hN hB
  go_wp2
  go_ret2
  exact ⟨rfl, rfl⟩

set_option maxHeartbeats 1000000 in
theorem rn_no3 (w : World) (b : Nat) (sg x f : Int) (hs : (b : Int) / 9223372036854775808 = sg) (hx : bits .and .u64 ((b : Int) / 4503599627370496) 2047 = x) (hf : bits .and .u64 (b : Int) 4503599627370495 = f)
    (hs0 : 0 ≤ sg) (hs1 : sg ≤ 1) (hx1 : 1150 < x) (hx2 : x < 2047)
    (hN : Calls Tryz.prog 53 #[.float .f64 b] w fun e w' => e = .returned (.bool false) ∧ w' = w) (hB : Calls Tryz.prog 38 #[.float .f64 b] w fun e w' => e = .returned (.int .u64 b) ∧ w' = w) :
    Calls Tryz.prog 37 #[.float .f64 b] w fun e w' => e = .returned (.tuple #[.int .u32 (0), .bool false]) ∧ w' = w := by
  go_enter Tryz.func37, Tryz.ntmps37
  go_wp2_with fail
  refine hN.mono ?_
  rintro e w1 ⟨rfl, rfl⟩
  go_wp2_with fail
  refine hB.mono ?_
  rintro e w2 ⟨rfl, rfl⟩
  clear hN hB
  go_wp2
  go_ret2
  exact ⟨rfl, rfl⟩

set_option maxHeartbeats 1000000 in
theorem rn_no4 (w : World) (b : Nat) (sg x f : Int) (hs : (b : Int) / 9223372036854775808 = sg) (hx : bits .and .u64 ((b : Int) / 4503599627370496) 2047 = x) (hf : bits .and .u64 (b : Int) 4503599627370495 = f)
    (hs0 : 0 ≤ sg) (hs1 : sg ≤ 1) (hx1 : 874 ≤ x) (hx2 : x < 897) (a : Int) (ha : bits .or .u64 f 4503599627370496 = a) (t m : Int) (ht : IntKind.u64.wrap (2 ^ (926 - x).toNat) = t) (hm : IntKind.u64.wrap (t - 1) = m) (h0 : (bits .and .u64 a m == 0) = false)
    (hN : Calls Tryz.prog 53 #[.float .f64 b] w fun e w' => e = .returned (.bool false) ∧ w' = w) (hB : Calls Tryz.prog 38 #[.float .f64 b] w fun e w' => e = .returned (.int .u64 b) ∧ w' = w) :
    Calls Tryz.prog 37 #[.float .f64 b] w fun e w' => e = .returned (.tuple #[.int .u32 (0), .bool false]) ∧ w' = w := by
  go_enter Tryz.func37, Tryz.ntmps37
  go_wp2_with fail
  refine hN.mono ?_
  rintro e w1 ⟨rfl, rfl⟩
  go_wp2_with fail
  refine hB.mono ?_
  rintro e w2 ⟨rfl, rfl⟩
  clear hN hB
  go_wp2
  go_ret2
  exact ⟨rfl, rfl⟩

set_option maxHeartbeats 1000000 in
theorem rn_no5 (w : World) (b : Nat) (sg x f : Int) (hs : (b : Int) / 9223372036854775808 = sg) (hx : bits .and .u64 ((b : Int) / 4503599627370496) 2047 = x) (hf : bits .and .u64 (b : Int) 4503599627370495 = f)
    (hs0 : 0 ≤ sg) (hs1 : sg ≤ 1) (hx1 : 0 < x) (hx2 : x < 874)
    (hN : Calls Tryz.prog 53 #[.float .f64 b] w fun e w' => e = .returned (.bool false) ∧ w' = w) (hB : Calls Tryz.prog 38 #[.float .f64 b] w fun e w' => e = .returned (.int .u64 b) ∧ w' = w) :
    Calls Tryz.prog 37 #[.float .f64 b] w fun e w' => e = .returned (.tuple #[.int .u32 (0), .bool false]) ∧ w' = w := by
  go_enter Tryz.func37, Tryz.ntmps37
  go_wp2_with fail
  refine hN.mono ?_
  rintro e w1 ⟨rfl, rfl⟩
  go_wp2_with fail
  refine hB.mono ?_
  rintro e w2 ⟨rfl, rfl⟩
  clear hN hB
  go_wp2
  go_ret2
  exact ⟨rfl, rfl⟩
end Go.Proofs.YtmaaacaifpgpaaaGreatDoor
