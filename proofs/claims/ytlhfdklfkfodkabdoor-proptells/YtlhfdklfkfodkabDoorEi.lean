
/- The text of a finite number, not nought: what ftoa64 takes and what it says. -/
import Derived.Test.YtlhfdklfkfodkabDoorEh
import Derived.Test.YtlhfdklfkfodkabDoorUf
import Derived.Lib.ItoaLen
import Derived.Laws.MathBits
set_option maxRecDepth 100000
namespace Go.Proofs.YtlhfdklfkfodkabDoor.Ff
open Go.RowKit Go.Lib Go.Sort

/-- How many digits stay when the noughts behind are cut. -/
def kOf (u nd : Nat) : Nat → Nat
  | 0 => 0
  | k + 1 => if dg u (nd - (k + 1)) = 48 then kOf u nd k else k + 1
theorem kOf_trims (u nd : Nat) : ∀ k, k ≤ nd → (∀ t, k ≤ t → t < nd → dg u (nd - 1 - t) = 48) → Trims u nd (kOf u nd k)
  | 0, h, hz => ⟨h, hz, .inl rfl⟩
  | k + 1, h, hz => by
    unfold kOf
    by_cases hd : dg u (nd - (k + 1)) = 48
    · rw [if_pos hd]
      refine kOf_trims u nd k (by omega) (fun t h1 h2 => ?_)
      rcases Nat.lt_or_ge k t with h3 | h3
      · exact hz t h3 h2
      · rw [show nd - 1 - t = nd - (k + 1) from by omega]; exact hd
    · rw [if_neg hd]
      exact ⟨h, hz, .inr hd⟩
def kN (u : Nat) : Nat := kOf u (Lib.nDigits u) (Lib.nDigits u)
theorem kN_trims (u : Nat) : Trims u (Lib.nDigits u) (kN u) := kOf_trims u _ _ (Nat.le_refl _) (fun t h1 h2 => by omega)
def digL (u : Nat) : List UInt8 := (List.range (kN u)).map fun t => dg u (Lib.nDigits u - 1 - t)
theorem digL_length (u : Nat) : (digL u).length = kN u := by simp [digL]
theorem nd_low : ∀ (u : Nat), 1 ≤ u → 10 ^ (Lib.nDigits u - 1) ≤ u := by
  intro u
  induction u using Nat.strongRecOn with
  | ind u ih =>
    intro hu
    by_cases h : u < 10
    · rw [Lib.nDigits_small h]; simpa using hu
    · rw [Lib.nDigits_big h]
      have h1 := ih (u / 10) (by omega) (by omega)
      have h2 := Lib.nDigits_pos (u / 10)
      rw [show Lib.nDigits (u / 10) + 1 - 1 = (Lib.nDigits (u / 10) - 1) + 1 from by omega, Nat.pow_succ]
      omega
theorem kN_pos {u : Nat} (h : 1 ≤ u) : 1 ≤ kN u := by
  rcases Nat.eq_zero_or_pos (kN u) with h0 | h0
  · exfalso
    have ht := kN_trims u
    rw [h0] at ht
    have hp := Lib.nDigits_pos u
    have hd := ht.2.1 0 (Nat.le_refl _) hp
    have hl := nd_low u h
    have hu := Lib.lt_pow_nDigits u
    rw [show Lib.nDigits u - 1 - 0 = Lib.nDigits u - 1 from by omega] at hd
    have e1 : 10 ^ Lib.nDigits u = 10 * 10 ^ (Lib.nDigits u - 1) := by
      rw [Nat.mul_comm, ← Nat.pow_succ]
      congr 1
      omega
    have hq1 : u / 10 ^ (Lib.nDigits u - 1) < 10 := by
      rw [Nat.div_lt_iff_lt_mul (Nat.pow_pos (by omega))]; omega
    have hq0 : 1 ≤ u / 10 ^ (Lib.nDigits u - 1) := (Nat.one_le_div_iff (Nat.pow_pos (by omega))).2 hl
    unfold dg at hd
    have := congrArg UInt8.toNat hd
    rw [UInt8.toNat_ofNat'] at this
    rw [Nat.mod_eq_of_lt hq1] at this
    have e48 : (48 : UInt8).toNat = 48 := rfl
    rw [e48] at this
    omega
  · exact h0
theorem kN_le {u : Nat} (h : u < 18446744073709551616) : kN u ≤ 20 := Nat.le_trans (kN_trims u).1 (Lib.nDigits_le20 u h)
theorem db_of_digs {w : World} {q u : Nat} (h : Digs w q u (Lib.nDigits u)) : DB w q (digL u) := by
  intro i hi
  rw [digL_length] at hi
  have := h i (Nat.lt_of_lt_of_le hi (kN_trims u).1)
  rw [this]
  congr 2
  simp [digL, List.getD, hi]

/-- The mantissa moved up to 64 bits, and its exponent. -/
def upS (mt : Nat) : Nat := 64 - Lib.bitLen mt
def upM (mt : Nat) : Nat := mt * 2 ^ upS mt
def upE (mt : Nat) (ex : Int) : Int := ex - (upS mt : Int) - 52
def dcN (mt : Nat) (ex : Int) : Nat := (shortN (upM mt) (upE mt ex)).1
def dcP (mt : Nat) (ex : Int) : Int := (shortN (upM mt) (upE mt ex)).2
/-- The text of mt times two to ex - 52. -/
def numT (neg : Bool) (mt : Nat) (ex : Int) : List UInt8 := txt neg (digL (dcN mt ex)) ((Lib.nDigits (dcN mt ex) : Int) + dcP mt ex)

/-- A finite number that is not nought. -/
structure Fin1 (mt : Nat) (ex : Int) : Prop where
  m1 : 1 ≤ mt
  m2 : mt < 2 ^ 53
  e1 : -1022 ≤ ex
  e2 : ex ≤ 1023
  n : mt < 2 ^ 52 → ex = -1022

theorem bl_bounds {mt : Nat} (h1 : 1 ≤ mt) (h2 : mt < 2 ^ 53) : 1 ≤ Lib.bitLen mt ∧ Lib.bitLen mt ≤ 53 ∧ 2 ^ (Lib.bitLen mt - 1) ≤ mt ∧ mt < 2 ^ Lib.bitLen mt := by
  obtain ⟨a, b, c⟩ := Lib.bitLenAux_bounds 64 mt (by omega) (by omega)
  refine ⟨a, ?_, b, c⟩
  show Lib.bitLen mt ≤ 53
  have b' : 2 ^ (Lib.bitLen mt - 1) ≤ mt := b
  rcases Nat.lt_or_ge 53 (Lib.bitLen mt) with h | h
  · have : 2 ^ 53 ≤ 2 ^ (Lib.bitLen mt - 1) := Nat.pow_le_pow_right (by omega) (by omega)
    omega
  · exact h
theorem upM_bounds {mt : Nat} (h1 : 1 ≤ mt) (h2 : mt < 2 ^ 53) : 2 ^ 63 ≤ upM mt ∧ upM mt < 2 ^ 64 ∧ 11 ≤ upS mt ∧ upS mt ≤ 63 := by
  obtain ⟨a, b, c, d⟩ := bl_bounds h1 h2
  unfold upM upS
  have e1 : 2 ^ 63 = 2 ^ (Lib.bitLen mt - 1) * 2 ^ (64 - Lib.bitLen mt) := by rw [← Nat.pow_add]; congr 1; omega
  have e2 : 2 ^ 64 = 2 ^ Lib.bitLen mt * 2 ^ (64 - Lib.bitLen mt) := by rw [← Nat.pow_add]; congr 1; omega
  refine ⟨?_, ?_, by omega, by omega⟩
  · rw [e1]; exact Nat.mul_le_mul_right _ c
  · rw [e2]; exact (Nat.mul_lt_mul_right (Nat.pow_pos (by omega))).2 d
theorem upS_norm {mt : Nat} (h1 : 2 ^ 52 ≤ mt) (h2 : mt < 2 ^ 53) : upS mt = 11 := by
  obtain ⟨a, b, c, d⟩ := bl_bounds (by omega) h2
  unfold upS
  rcases Nat.lt_or_ge (Lib.bitLen mt) 53 with h | h
  · have : 2 ^ Lib.bitLen mt ≤ 2 ^ 52 := Nat.pow_le_pow_right (by omega) (by omega)
    omega
  · omega
theorem upS_sub {mt : Nat} (h1 : 1 ≤ mt) (h2 : mt < 2 ^ 52) : 12 ≤ upS mt := by
  obtain ⟨a, b, c, d⟩ := bl_bounds h1 (by omega)
  unfold upS
  rcases Nat.lt_or_ge 52 (Lib.bitLen mt) with h | h
  · have : 2 ^ 52 ≤ 2 ^ (Lib.bitLen mt - 1) := Nat.pow_le_pow_right (by omega) (by omega)
    omega
  · omega
theorem Fin1.sh {mt : Nat} {ex : Int} (h : Fin1 mt ex) : Sh (upM mt) (upE mt ex) := by
  obtain ⟨a, b, c, d⟩ := upM_bounds h.m1 h.m2
  have x1 := h.e1
  have x2 := h.e2
  rcases Nat.lt_or_ge mt (2 ^ 52) with hs | hs
  · have e := h.n hs
    have s12 := upS_sub h.m1 hs
    refine ⟨a, b, by unfold upE; omega, by unfold upE; omega, ?_⟩
    have ez : shZ (upE mt ex) = upS mt := by unfold shZ upE; rw [if_neg (by omega)]; omega
    rw [ez]
    unfold upM
    exact Nat.mul_mod_left _ _
  · have s11 := upS_norm hs h.m2
    refine ⟨a, b, by unfold upE; omega, by unfold upE; omega, ?_⟩
    have ez : shZ (upE mt ex) = upS mt := by unfold shZ upE; rw [if_pos (by omega)]; omega
    rw [ez]
    unfold upM
    exact Nat.mul_mod_left _ _
theorem dcP_bounds {mt : Nat} {ex : Int} (h : Fin1 mt ex) : -348 ≤ dcP mt ex ∧ dcP mt ex ≤ 349 := by
  obtain ⟨_, _, _, _, _, b6, b7⟩ := sh_bounds h.sh
  unfold dcP shortN fin
  split
  · dsimp only; omega
  · split <;> dsimp only <;> omega
theorem dcN_bounds {mt : Nat} {ex : Int} (h : Fin1 mt ex) : 1 ≤ dcN mt ex ∧ dcN mt ex < 2 ^ 60 := shortN_pos h.sh
theorem wrap_lt {a : Int} {m : Nat} (h : a = (m : Int)) (hm : m < 2 ^ 64) : IntKind.u64.wrap a = (m : Int) := by
  rw [h, IntKind.wrap_u64]; omega
theorem up_eq {mt s : Nat} {z : Int} (hz : (mt : Int) = z) (hs : upS mt = s) (h1 : 1 ≤ mt) (h2 : mt < 2 ^ 53) : IntKind.u64.wrap (z * 2 ^ (64 - (64 - s))) = ((upM mt : Nat) : Int) := by
  have h64 := upM_bounds h1 h2
  refine wrap_lt ?_ h64.2.1
  rw [show 64 - (64 - s) = s from by omega, ← hz]
  unfold upM
  rw [hs]
  simp
end Go.Proofs.YtlhfdklfkfodkabDoor.Ff
