/- Writes of which each has its own page: what the pages are, whole or kept in part. -/
import Derived.Test.YtgbgeoplbmjcbaaOpen
import Derived.Test.YtgbgeoplbmjcbaaLastWalk
namespace Go.Proofs.Ytgbgeoplbmjcbaa
open Go.RowKit Go.Lib

/-- Pages base, base + 1, .. are written with t 0, t 1, .. -/
def rows (P : List UInt8) (base : Nat) (t : Nat → List UInt8) : Nat → List UInt8
  | 0 => P
  | k + 1 => splice (rows P base t k) ((base + k) * 256) (t k)
theorem rows_length (P : List UInt8) (base n : Nat) (t : Nat → List UInt8) (hP : P.length = n * 256) (ht : ∀ i, (t i).length ≤ 256) : ∀ k, base + k ≤ n → (rows P base t k).length = n * 256
  | 0, _ => hP
  | k + 1, h => splice_len (rows_length P base n t hP ht k (by omega)) (by omega) (ht k)
theorem rows_page (P : List UInt8) (base n : Nat) (t : Nat → List UInt8) (hP : P.length = n * 256) (ht : ∀ i, (t i).length ≤ 256) (p : Nat) (hp : p < n) : ∀ k, base + k ≤ n →
    pageOf (rows P base t k) p = if base ≤ p ∧ p < base + k then t (p - base) ++ (pageOf P p).drop (t (p - base)).length else pageOf P p
  | 0, _ => by rw [if_neg (by omega)]; rfl
  | k + 1, h => by
    have ih := rows_page P base n t hP ht p hp k (by omega)
    have hl := rows_length P base n t hP ht k (by omega)
    show pageOf (splice (rows P base t k) ((base + k) * 256) (t k)) p = _
    rw [pageOf_splice _ n _ _ _ hl (by omega) hp (ht k)]
    by_cases e : p = base + k
    · subst e
      rw [if_pos rfl, ih, if_neg (by omega), if_pos (by omega), Nat.add_sub_cancel_left]
    · rw [if_neg e, ih]
      by_cases h2 : base ≤ p ∧ p < base + k
      · rw [if_pos h2, if_pos (by omega)]
      · rw [if_neg h2, if_neg (by omega)]

/-- The writes. -/
def logK (base : Nat) (l : List UInt8) : Nat → List (Nat × List UInt8)
  | 0 => []
  | k + 1 => logK base l k ++ [(base + k, fullB (l.getD k 0))]
theorem logK_length (base : Nat) (l : List UInt8) : ∀ k, (logK base l k).length = k
  | 0 => rfl
  | k + 1 => by rw [logK, List.length_append, logK_length base l k]; rfl
theorem logK_ok (base n : Nat) (l : List UInt8) : ∀ k, base + k ≤ n → LogOk n (logK base l k)
  | 0, _ => fun x hx => by cases hx
  | k + 1, h => fun x hx => by
    rcases List.mem_append.1 hx with hx | hx
    · exact logK_ok base n l k (by omega) x hx
    · obtain rfl := List.mem_singleton.1 hx
      exact ⟨by show base + k < n; omega, fullB_length _⟩
theorem app_rows (P : List UInt8) (base : Nat) (l : List UInt8) : ∀ k, appAll P (logK base l k) = rows P base (fun i => fullB (l.getD i 0)) k
  | 0 => rfl
  | k + 1 => by rw [logK, appAll_snoc, app_rows P base l k]; rfl
theorem part_rows (P : List UInt8) (K base : Nat) (l : List UInt8) : ∀ k, partAll P K (logK base l k) = rows P base (fun i => (fullB (l.getD i 0)).take (keptAt K i)) k
  | 0 => rfl
  | k + 1 => by rw [logK, partAll_snoc, part_rows P K base l k, logK_length]; rfl

/-- What is found behind the loss of power. -/
theorem safe_pages (Z : List UInt8) (hZ : Z.length = 64 * 256) (h0 : ∀ j, j < 64 → pageOf Z j = fullB 0) (l m : List UInt8) (hl : l.length ≤ 30) (hm : m.length ≤ 30) (K : Nat) :
    (∀ i, i < l.length → pageOf (partAll (appAll Z (logK 0 l l.length)) K (logK 32 m m.length)) i = fullB (l.getD i 0)) ∧
    (∀ i, i < m.length → pageOf (partAll (appAll Z (logK 0 l l.length)) K (logK 32 m m.length)) (32 + i) = (fullB (m.getD i 0)).take (keptAt K i) ++ (fullB 0).drop (keptAt K i)) ∧
    (appAll Z (logK 0 l l.length)).length = 64 * 256 := by
  have f1 : ∀ i, (fullB (l.getD i 0)).length ≤ 256 := fun i => full_le _
  have f2 : ∀ i, ((fullB (m.getD i 0)).take (keptAt K i)).length ≤ 256 := fun i => take_le _ _
  have hs : (appAll Z (logK 0 l l.length)).length = 64 * 256 := by rw [app_rows]; exact rows_length Z 0 64 _ hZ f1 l.length (by omega)
  refine ⟨fun i hi => ?_, fun i hi => ?_, hs⟩
  · rw [part_rows, rows_page _ 32 64 _ hs f2 i (by omega) m.length (by omega), if_neg (by omega), app_rows, rows_page Z 0 64 _ hZ f1 i (by omega) l.length (by omega), if_pos (by omega)]
    simp only [Nat.sub_zero]
    rw [List.drop_eq_nil_of_le (by rw [fullB_length, h0 i (by omega), fullB_length]; exact Nat.le_refl _), List.append_nil]
  · rw [part_rows, rows_page _ 32 64 _ hs f2 (32 + i) (by omega) m.length (by omega), if_pos (by omega), app_rows, rows_page Z 0 64 _ hZ f1 (32 + i) (by omega) l.length (by omega), if_neg (by omega), h0 (32 + i) (by omega)]
    simp only [Nat.add_sub_cancel_left]
    have e : ((fullB (m.getD i 0)).take (keptAt K i)).length = keptAt K i := by rw [List.length_take, fullB_length]; exact Nat.min_eq_left (keptAt_le K i)
    rw [e]

/-- A byte with its lowest bit set. -/
def or1 (c : UInt8) : UInt8 := UInt8.ofNat (bits .or .u8 (c.toNat : Int) 1).toNat
theorem bits8 (op : BinOp) (x y : Int) : ((UInt8.ofNat (bits op .u8 x y).toNat).toNat : Int) = bits op .u8 x y := by
  unfold bits
  simp only
  rw [IntKind.wrap_u8', UInt8.toNat_ofNat']
  omega
theorem or1_eq (c : UInt8) : bits .or .u8 (c.toNat : Int) 1 = ((or1 c).toNat : Int) := (bits8 .or _ _).symm
theorem bytes_append (a b : List UInt8) : (⟨a.toArray⟩ : ByteArray) ++ ⟨b.toArray⟩ = ⟨(a ++ b).toArray⟩ := by
  apply ByteArray.ext
  simp
end Go.Proofs.Ytgbgeoplbmjcbaa
