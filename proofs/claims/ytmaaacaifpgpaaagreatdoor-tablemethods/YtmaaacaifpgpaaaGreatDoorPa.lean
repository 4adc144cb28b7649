
/- What prop.Compare answers of any two values. -/
import Derived.Test.YtmaaacaifpgpaaaGreatDoorFk
namespace Go.Proofs.YtmaaacaifpgpaaaGreatDoor
open Go.RowKit Go.Lib Ieee

def cmpZ (a b : Int) : Int := if a < b then -1 else if b < a then 1 else 0

/-- One of two lists of bytes ahead of the other. -/
theorem bl_irrefl : ∀ x : List UInt8, Op.bytesLess x x = false
  | [] => rfl
  | a :: x => by simp [Op.bytesLess, bl_irrefl x]
theorem bl_tri : ∀ x y : List UInt8, Op.bytesLess x y = false → Op.bytesLess y x = false → x = y
  | [], [], _, _ => rfl
  | [], _ :: _, h, _ => by simp [Op.bytesLess] at h
  | _ :: _, [], _, h => by simp [Op.bytesLess] at h
  | a :: x, b :: y, h, h' => by
    simp only [Op.bytesLess, Bool.or_eq_false_iff, Bool.and_eq_false_iff, decide_eq_false_iff_not, beq_eq_false_iff_ne] at h h'
    have e : a = b := UInt8.le_antisymm (UInt8.not_lt.1 h'.1) (UInt8.not_lt.1 h.1)
    subst e
    rw [bl_tri x y (h.2.resolve_left (by simp)) (h'.2.resolve_left (by simp))]
theorem bl_trans : ∀ x y z : List UInt8, Op.bytesLess x y = true → Op.bytesLess y z = true → Op.bytesLess x z = true
  | [], [], _, h, _ => by simp [Op.bytesLess] at h
  | [], _ :: _, [], _, h => by simp [Op.bytesLess] at h
  | [], _ :: _, _ :: _, _, _ => by simp [Op.bytesLess]
  | _ :: _, [], _, h, _ => by simp [Op.bytesLess] at h
  | _ :: _, _ :: _, [], _, h => by simp [Op.bytesLess] at h
  | a :: x, b :: y, c :: z, h, h' => by
    simp only [Op.bytesLess, Bool.or_eq_true, Bool.and_eq_true, decide_eq_true_eq, beq_iff_eq] at h h' ⊢
    rcases h with h | ⟨rfl, h⟩
    · rcases h' with h' | ⟨rfl, h'⟩
      · exact .inl (UInt8.lt_trans h h')
      · exact .inl h
    · rcases h' with h' | ⟨rfl, h'⟩
      · exact .inl h'
      · exact .inr ⟨rfl, bl_trans x y z h h'⟩
theorem bl_asymm (x y : List UInt8) (h : Op.bytesLess x y = true) : Op.bytesLess y x = false := by
  cases e : Op.bytesLess y x with
  | false => rfl
  | true => have := bl_trans _ _ _ h e; rw [bl_irrefl] at this; cases this

def cmpL (x y : List UInt8) : Int := if Op.bytesLess x y = true then -1 else if x = y then 0 else 1
theorem cmpL_lt {x y : List UInt8} (h : Op.bytesLess x y = true) : cmpL x y = -1 := by simp [cmpL, h]
theorem cmpL_self (x : List UInt8) : cmpL x x = 0 := by simp [cmpL, bl_irrefl]
theorem cmpL_gt {x y : List UInt8} (h : Op.bytesLess x y = false) (h' : x ≠ y) : cmpL x y = 1 := by simp [cmpL, h, h']

/-- The first of four numbers that isn't nought. -/
def or4 (a b c d : Int) : Int := if a ≠ 0 then a else if b ≠ 0 then b else if c ≠ 0 then c else d
theorem or4_hit (a b c d : Int) : ∀ k, k < 4 → (∀ j, j < k → [a, b, c, d].getD j 0 = 0) → [a, b, c, d].getD k 0 ≠ 0 → or4 a b c d = [a, b, c, d].getD k 0
  | 0, _, _, h => by simp at h; simp [or4, h]
  | 1, _, z, h => by have := z 0 (by omega); simp at this h; simp [or4, this, h]
  | 2, _, z, h => by have := z 0 (by omega); have := z 1 (by omega); simp at *; simp [or4, *]
  | 3, _, z, h => by have := z 0 (by omega); have := z 1 (by omega); have := z 2 (by omega); simp at *; simp [or4, *]
  | k + 4, h, _, _ => by omega
theorem or4_none (a b c d : Int) (z : ∀ j, j < 4 → [a, b, c, d].getD j 0 = 0) : or4 a b c d = 0 := by
  have := z 0 (by omega); have := z 1 (by omega); have := z 2 (by omega); have := z 3 (by omega); simp at *; simp [or4, *]

end Go.Proofs.YtmaaacaifpgpaaaGreatDoor
