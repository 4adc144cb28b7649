
/- Numbers as bytes, the highest first; what stands in front of bytes that are no frame, and frames. Plain mathematics. -/
import Derived.Test.YtmaaacaifpgpaaaGreatDoorChecked
import Derived.WalkKit
namespace Go.Proofs.YtmaaacaifpgpaaaGreatDoor
open Go.RowKit
set_option maxRecDepth 100000

/-- Byte i of the lowest k bytes of n, the highest first. -/
def byteOf (k n i : Nat) : UInt8 := UInt8.ofNat (n / 256 ^ (k - 1 - i))
/-- A number in k bytes, the highest first. -/
def beN (k n : Nat) : List UInt8 := (List.range k).map (byteOf k n)
theorem beN_len (k n : Nat) : (beN k n).length = k := by simp [beN]
theorem beN_snoc (k n i : Nat) (h : i < k) : (beN k n).take (i + 1) = (beN k n).take i ++ [byteOf k n i] := by
  rw [List.take_succ_eq_append_getElem (by simpa [beN] using h)]
  simp [beN]
theorem beN_all (k n : Nat) : (beN k n).take k = beN k n := List.take_of_length_le (by rw [beN_len]; exact Nat.le_refl _)

/-- Bytes as a number, the highest first. -/
def numL (l : List UInt8) : Nat := l.foldl (fun n c => n * 256 + c.toNat) 0
theorem numL_nil : numL [] = 0 := rfl
theorem numL_snoc (l : List UInt8) (c : UInt8) : numL (l ++ [c]) = numL l * 256 + c.toNat := by simp [numL, List.foldl_append]
theorem numL_lt_from (l : List UInt8) : ∀ a, l.foldl (fun n c => n * 256 + c.toNat) a < (a + 1) * 256 ^ l.length := by
  induction l with
  | nil => intro a; simp
  | cons c l ih =>
    intro a
    rw [List.foldl_cons, List.length_cons]
    refine Nat.lt_of_lt_of_le (ih _) ?_
    rw [Nat.pow_succ, Nat.mul_comm (256 ^ l.length) 256, ← Nat.mul_assoc]
    refine Nat.mul_le_mul_right _ ?_
    have := c.toNat_lt
    omega
theorem numL_lt (l : List UInt8) : numL l < 256 ^ l.length := by simpa [numL] using numL_lt_from l 0
theorem numL_take (k n i : Nat) (h : i ≤ k) (hn : n < 256 ^ k) : numL ((beN k n).take i) = n / 256 ^ (k - i) := by
  induction i with
  | zero => simp [numL, Nat.div_eq_of_lt hn]
  | succ i ih =>
    rw [beN_snoc k n i (by omega), numL_snoc, ih (by omega), byteOf, UInt8.toNat_ofNat']
    have e : k - i = (k - 1 - i) + 1 := by omega
    have e2 : k - (i + 1) = k - 1 - i := by omega
    rw [e, e2, Nat.pow_succ, ← Nat.div_div_eq_div_mul]
    show _ * 256 + _ % 256 = _
    omega
theorem numL_be (k n : Nat) (hn : n < 256 ^ k) : numL (beN k n) = n := by
  have := numL_take k n k (Nat.le_refl _) hn
  rw [beN_all] at this
  simpa using this

/-- Is there a frame of this type? -/
def tyZ (z : Int) : Bool := z == 1 || z == 2 || z == 3 || z == 8
theorem tyZ_nat (z : Int) (h : tyZ z = true) : ∃ t : Nat, z = t ∧ t < 256 := by
  simp only [tyZ, Bool.or_eq_true, beq_iff_eq] at h
  exact ⟨z.toNat, by omega, by omega⟩
/-- A frame's bytes. -/
def frL (t c : Nat) (p : List UInt8) : List UInt8 := beN 1 t ++ beN 2 c ++ beN 4 p.length ++ p ++ [206]
theorem frL_len (t c : Nat) (p : List UInt8) : (frL t c p).length = p.length + 8 := by simp [frL, beN_len]; omega

/-- What is read of bytes: a frame, how many bytes it has, the error. -/
structure Nr where
  ty : Nat
  ch : Nat
  pay : List UInt8
  n : Nat
  e : Nat
def nextL (l : List UInt8) : Nr :=
  if l ≠ [] ∧ tyZ ((l.getD 0 0).toNat : Int) = false then ⟨0, 0, [], 0, 40⟩
  else if l.length < 7 then ⟨0, 0, [], 0, 41⟩
  else if 16384 < numL ((l.drop 3).take 4) then ⟨0, 0, [], 0, 40⟩
  else if l.length ≤ 7 + numL ((l.drop 3).take 4) then ⟨0, 0, [], 0, 41⟩
  else if l.getD (7 + numL ((l.drop 3).take 4)) 0 ≠ 206 then ⟨0, 0, [], 0, 40⟩
  else ⟨(l.getD 0 0).toNat, numL ((l.drop 1).take 2), (l.drop 7).take (numL ((l.drop 3).take 4)), numL ((l.drop 3).take 4) + 8, 0⟩
end Go.Proofs.YtmaaacaifpgpaaaGreatDoor
