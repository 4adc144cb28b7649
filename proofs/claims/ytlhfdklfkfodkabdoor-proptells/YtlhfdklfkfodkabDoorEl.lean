
/- What the library's ftoa64 and FormatFloat write of any float. -/
import Derived.Test.YtlhfdklfkfodkabDoorEjpz
import Derived.Test.YtlhfdklfkfodkabDoorEjps
import Derived.Test.YtlhfdklfkfodkabDoorEjnz
import Derived.Test.YtlhfdklfkfodkabDoorEjns
import Derived.Test.YtlhfdklfkfodkabDoorEk
import Derived.Test.YtlhfdklfkfodkabDoorFm
import Derived.Test.YtlhfdklfkfodkabDoorFk
set_option maxRecDepth 100000
namespace Go.Proofs.YtlhfdklfkfodkabDoor.Ff
open Go.RowKit Go.Lib Go.Sort

/-- The text of a float, by its bits. -/
def textB (b : Nat) : List UInt8 :=
  if b / 2 ^ 52 % 2 ^ 11 = 2047 then
    if b % 2 ^ 52 ≠ 0 then [78, 97, 78] else if b / 2 ^ 63 = 0 then [43, 73, 110, 102] else [45, 73, 110, 102]
  else if b / 2 ^ 52 % 2 ^ 11 = 0 then
    if b % 2 ^ 52 = 0 then (if b / 2 ^ 63 = 0 then [48] else [45, 48])
    else numT (decide (b / 2 ^ 63 ≠ 0)) (b % 2 ^ 52) (-1022)
  else numT (decide (b / 2 ^ 63 ≠ 0)) (b % 2 ^ 52 + 2 ^ 52) (((b / 2 ^ 52 % 2 ^ 11 : Nat) : Int) - 1023)

theorem and2047i (n : Nat) (hn : n < 4096) : bits .and .i64 (n : Int) 2047 = ((n % 2 ^ 11 : Nat) : Int) := by
  show IntKind.i64.wrap ((BitVec.ofInt 64 (n : Int) &&& BitVec.ofInt 64 2047).toNat : Int) = _
  have h2 : (BitVec.ofInt 64 (n : Int)).toNat = n := by
    rw [BitVec.ofInt_natCast, BitVec.toNat_ofNat]; exact Nat.mod_eq_of_lt (by omega)
  have h3 : (BitVec.ofInt 64 2047).toNat = 2 ^ 11 - 1 := by decide
  rw [BitVec.toNat_and, h2, h3, Nat.and_two_pow_sub_one_eq_mod, IntKind.wrap_i64]
  omega
theorem or52t (n : Nat) (hn : n < 2 ^ 52) : bits .or .u64 (n : Int) 4503599627370496 = ((n + 2 ^ 52 : Nat) : Int) := by
  show IntKind.u64.wrap ((BitVec.ofInt 64 (n : Int) ||| BitVec.ofInt 64 4503599627370496).toNat : Int) = _
  have h2 : (BitVec.ofInt 64 (n : Int)).toNat = n := by
    rw [BitVec.ofInt_natCast, BitVec.toNat_ofNat]; exact Nat.mod_eq_of_lt (by omega)
  have h3 : (BitVec.ofInt 64 4503599627370496).toNat = 2 ^ 52 := by decide
  rw [BitVec.toNat_or, h2, h3, Nat.or_comm, Nat.add_comm n, show 2 ^ 52 ||| n = 2 ^ 52 + n from by
    have := Nat.two_pow_add_eq_or_of_lt hn 1
    simpa using this.symm, IntKind.wrap_u64]
  omega

theorem ftoa_any (w : World) (B : Nat) (v : Value) (b : Nat) (hb : b < 2 ^ 64) (hO : Own w B v []) (hB : B ≤ w.heap.size) (hq : 3 < B) (hv : Vars w) (hP : Pow w) :
    Calls Tryd.prog 38 #[v, .float .f64 b, .int .u8 103, .int .i64 (-1)] w fun e w' =>
      ∃ v', e = .returned v' ∧ Own w' B v' (textB b) ∧ Below B w w' := by
  have hy : (b : Int) / 4503599627370496 = ((b / 2 ^ 52 : Nat) : Int) := by omega
  have hy1 : b / 2 ^ 52 < 4096 := by omega
  have hx := and2047i (b / 2 ^ 52) hy1
  have hf := and52 b hb
  have hE : b / 2 ^ 52 % 2 ^ 11 < 2048 := Nat.mod_lt _ (by omega)
  have hM : b % 2 ^ 52 < 2 ^ 52 := Nat.mod_lt _ (by omega)
  have hs2 : b / 2 ^ 63 = 0 ∨ b / 2 ^ 63 = 1 := by omega
  have hsI : (b : Int) / 9223372036854775808 = ((b / 2 ^ 63 : Nat) : Int) := by omega
  unfold textB
  by_cases h7 : b / 2 ^ 52 % 2 ^ 11 = 2047
  · rw [if_pos h7]
    rw [h7] at hx
    by_cases hm : b % 2 ^ 52 = 0
    · rw [if_neg (by simpa using hm)]
      rw [hm] at hf
      rcases hs2 with h | h
      · rw [if_pos h]; rw [h] at hsI
        exact ftoaI_p w B v b _ hsI hy hy1 hx hf hO hB
      · rw [if_neg (by omega)]; rw [h] at hsI
        exact ftoaI_n w B v b _ hsI hy hy1 hx hf hO hB
    · rw [if_pos hm]
      exact ftoaN w B v b _ _ hsI hy hy1 hx _ hf (by simp; omega) hO hB
  · rw [if_neg h7]
    by_cases h0 : b / 2 ^ 52 % 2 ^ 11 = 0
    · rw [if_pos h0]
      rw [h0] at hx
      by_cases hm : b % 2 ^ 52 = 0
      · rw [if_pos hm]
        rw [hm] at hf
        rcases hs2 with h | h
        · rw [if_pos h]; rw [h] at hsI
          exact ftoaZ_p w B v b _ hsI hy hy1 hx hf hO hB 3 hq
        · rw [if_neg (by omega)]; rw [h] at hsI
          exact ftoaZ_n w B v b _ hsI hy hy1 hx hf hO hB 3 hq
      · rw [if_neg hm]
        have hF : Fin1 (b % 2 ^ 52) (-1022) := ⟨by omega, by omega, by omega, by omega, fun _ => rfl⟩
        rcases hs2 with h | h
        · rw [show decide (b / 2 ^ 63 ≠ 0) = false from by simp [h]]; rw [h] at hsI
          exact ftoaF_ps w B v b _ _ hsI hy hy1 hx _ rfl hf hF hO hB hv hP
        · rw [show decide (b / 2 ^ 63 ≠ 0) = true from by simp [h]]; rw [h] at hsI
          exact ftoaF_ns w B v b _ _ hsI hy hy1 hx _ rfl hf hF hO hB hv hP
    · rw [if_neg h0]
      have hF : Fin1 (b % 2 ^ 52 + 2 ^ 52) (((b / 2 ^ 52 % 2 ^ 11 : Nat) : Int) - 1023) := ⟨by omega, by omega, by omega, by omega, fun h => by omega⟩
      have ho := or52t (b % 2 ^ 52) hM
      rcases hs2 with h | h
      · rw [show decide (b / 2 ^ 63 ≠ 0) = false from by simp [h]]; rw [h] at hsI
        exact ftoaF_pz w B v b _ _ hsI hy hy1 _ hx (by omega) (by omega) _ hf _ rfl ho hF hO hB hv hP
      · rw [show decide (b / 2 ^ 63 ≠ 0) = true from by simp [h]]; rw [h] at hsI
        exact ftoaF_nz w B v b _ _ hsI hy hy1 _ hx (by omega) (by omega) _ hf _ rfl ho hF hO hB hv hP

set_option maxHeartbeats 1000000 in
theorem fmt_any (w : World) (b : Nat) (hb : b < 2 ^ 64) (hv : Vars w) (hP : Pow w) :
    Calls Tryd.prog 30 #[.float .f64 b, .int .u8 103, .int .i64 (-1), .int .i64 64] w fun e w' => e = .returned (.string ⟨(textB b).toArray⟩) ∧ Below w.heap.size w w' := by
  have hO := own24 w
  have hb0 : Below w.heap.size w (w.alloc (.cells c24 5)) := (Below.refl _ w).alloc (Nat.le_refl _) _
  have h3 : 3 < w.heap.size := by
    have h9 : 5 < w.heap.size := World.block_lt_of_cell? w _ (hP 0 (by omega)).1
    omega
  have hF := ftoa_any _ w.heap.size _ b hb hO (by simp) h3 (hv.on hb0) (hP.on hb0)
  clear hO hv hP hb h3
  have HM := make24 w
  generalize textB b = T at *
  generalize c24 = cc at *
  go_enter Tryd.func30, Tryd.ntmps30
  go_wp2_with fail
  refine hF.mono ?_
  rintro e w1 ⟨v1, rfl, ho, hb1⟩
  have hc := conv_any ho.rd
  clear hF HM
  go_wp2
  go_ret
  exact ⟨rfl, hb0.trans hb1⟩

theorem fmtp_any (w : World) (b : Nat) (hb : b < 2 ^ 64) (hv : Vars w) (hP : Pow w) :
    Calls Tryd.prog 23 #[.float .f64 b, .int .u8 103, .int .i64 (-1), .int .i64 64] w fun e w' => e = .returned (.string ⟨(textB b).toArray⟩) ∧ Below w.heap.size w w' := by
  have hF := fmt_any w b hb hv hP
  clear hv hP hb
  generalize textB b = T at *
  go_enter Tryd.func23, Tryd.ntmps23
  go_wp2_with fail
  refine hF.mono ?_
  rintro e w1 ⟨rfl, hb⟩
  clear hF
  go_wp2
  go_ret
  exact ⟨rfl, hb⟩

theorem text_any (w : World) (b : Nat) (hb : b < 2 ^ 64) (hv : Vars w) (hP : Pow w) :
    Calls Tryd.prog 15 #[.float .f64 b] w fun e w' => e = .returned (.string ⟨(textB b).toArray⟩) ∧ Below w.heap.size w w' := by
  have h := fmtp_any w b hb hv hP
  clear hv hP hb
  generalize textB b = T at *
  go_enter Tryd.func15, Tryd.ntmps15
  go_wp2_with fail
  refine h.mono ?_
  rintro e w1 ⟨rfl, hb⟩
  clear h
  go_wp2
  go_ret
  exact ⟨rfl, hb⟩
end Go.Proofs.YtlhfdklfkfodkabDoor.Ff
