/- Records that are laid are found. -/
import Derived.Test.YthgkkmcpmhfehaaMa
namespace Go.Proofs.Ythgkkmcpmhfehaa
open Go.RowKit Go.Lib
set_option maxRecDepth 100000

theorem de_be3 (m : Nat) (h : m ≤ 65536) : Sl.de (be3 m) = m := by
  simp only [Sl.de, be3, List.foldl_cons, List.foldl_nil, UInt8.toNat_ofNat']
  omega
theorem sumN_lt (c : Nat) (l r : List UInt8) : sumN c l r < 4611686018427387904 := Sl.addN_lt _ _
theorem list_get_eq {a b : List UInt8} (hl : a.length = b.length) (h : ∀ k, k < b.length → a[k]? = b[k]?) : a = b := by
  apply List.ext_getElem?
  intro k
  by_cases hk : k < b.length
  · exact h k hk
  · rw [List.getElem?_eq_none (by omega), List.getElem?_eq_none (by omega)]

theorem nxt_frame (P : List UInt8) (lo size p c : Nat) (r : List UInt8) (hr : r.length ≤ 65536) (hP : lo * 256 + size ≤ P.length) (hs : p + (12 + r.length) ≤ size) (h : ∀ k, k < 12 + r.length → P[lo * 256 + p + k]? = (frB 1 c r)[k]?) : nxt P lo size p c = (1, r) := by
  have hfl := frB_length 1 c r
  have h12 : cutB P lo p 12 = (1 :: be3 r.length) ++ Sl.be8 (sumN c (be3 r.length) r) := by
    apply list_get_eq
    · rw [cutB_length _ _ _ _ (by omega)]; simp [be3, Sl.be8]
    · intro k hk
      have hk' : k < 12 := by simpa [be3, Sl.be8] using hk
      rw [cut_get _ _ _ _ _ hk', h k (by omega)]
      unfold frB
      rw [List.getElem?_append_left hk]
  have hrr : cutB P lo (p + 12) r.length = r := by
    apply list_get_eq
    · exact cutB_length _ _ _ _ (by omega)
    · intro k hk
      rw [cut_get _ _ _ _ _ hk, show lo * 256 + (p + 12) + k = lo * 256 + p + (12 + k) by omega, h (12 + k) (by omega)]
      unfold frB
      rw [List.getElem?_append_right (by simp [be3, Sl.be8])]
      congr 1
      simp [be3, Sl.be8]
  have e3 : (((1 :: be3 r.length) ++ Sl.be8 (sumN c (be3 r.length) r)).drop 1).take 3 = be3 r.length := by simp [be3]
  have e4 : ((1 :: be3 r.length) ++ Sl.be8 (sumN c (be3 r.length) r)).drop 4 = Sl.be8 (sumN c (be3 r.length) r) := by simp [be3]
  have e1 : ((1 :: be3 r.length) ++ Sl.be8 (sumN c (be3 r.length) r)).getD 0 0 = 1 := rfl
  unfold nxt
  rw [h12, if_neg (by omega), e3, e4, e1, de_be3 _ hr, hrr, Sl.de_be8 _ (by have := sumN_lt c (be3 r.length) r; omega)]
  rw [if_neg (by decide), if_neg (by rintro (h | h | h); exact absurd rfl h; omega; omega), if_neg (by simp)]
theorem nxt_end (P : List UInt8) (lo size p c : Nat) (h : p + 12 ≤ size → P[lo * 256 + p]? = some 0) : (nxt P lo size p c).1 = 0 := by
  unfold nxt
  by_cases h1 : size < p + 12
  · rw [if_pos h1]
  · rw [if_neg h1, if_pos]
    have := cut_get P lo p 12 0 (by omega)
    rw [Nat.add_zero, h (by omega)] at this
    rw [List.getD_eq_getElem?_getD, this]; rfl

/-- Records as they stand from a number on. -/
def frs (c : Nat) : List (List UInt8) → List UInt8
  | [] => []
  | r :: rs => frB 1 c r ++ frs (c + 1) rs
theorem frs_length (c : Nat) : ∀ rs, (frs c rs).length = tot rs
  | [] => rfl
  | r :: rs => by
    have := frs_length (c + 1) rs
    simp only [frs, List.length_append, frB_length, this, tot, List.map_cons, List.sum_cons]
theorem frs_snoc (r : List UInt8) : ∀ (rs : List (List UInt8)) (c : Nat), frs c (rs ++ [r]) = frs c rs ++ frB 1 (c + rs.length) r
  | [], c => by simp [frs]
  | x :: rs, c => by
    simp only [List.cons_append, frs, frs_snoc r rs (c + 1), List.append_assoc, List.length_cons]
    rw [show c + 1 + rs.length = c + (rs.length + 1) by omega]

/-- Records are laid from the beginning of a stretch on, and no more. -/
structure Laid (P : List UInt8) (lo size : Nat) (rs : List (List UInt8)) : Prop where
  fit : tot rs ≤ size
  len : lo * 256 + size ≤ P.length
  shorts : ∀ r ∈ rs, r.length ≤ 65536
  bytes : ∀ k, k < tot rs → P[lo * 256 + k]? = (frs 0 rs)[k]?
  fin : tot rs + 12 ≤ size → P[lo * 256 + tot rs]? = some 0

theorem laid_from (P : List UInt8) (lo size : Nat) (hP : lo * 256 + size ≤ P.length) : ∀ (rs : List (List UInt8)) (p c : Nat), (∀ r ∈ rs, r.length ≤ 65536) → p + tot rs ≤ size → (∀ k, k < tot rs → P[lo * 256 + p + k]? = (frs c rs)[k]?) → (p + tot rs + 12 ≤ size → P[lo * 256 + (p + tot rs)]? = some 0) → Chain P lo size rs p c 0
  | [], p, c, _, _, _, hf => ⟨nxt_end P lo size p c (fun h => by simpa [tot] using hf (by simpa [tot] using h)), by decide⟩
  | r :: rs, p, c, hs, hl, hb, hf => by
    have ht : tot (r :: rs) = (12 + r.length) + tot rs := by simp [tot]
    have hfl := frB_length 1 c r
    refine ⟨nxt_frame P lo size p c r (hs r (by simp)) hP (by omega) (fun k hk => ?_), laid_from P lo size hP rs _ _ (fun x hx => hs x (by simp [hx])) (by omega) (fun k hk => ?_) (fun h => ?_)⟩
    · rw [hb k (by omega)]
      simp only [frs]
      rw [List.getElem?_append_left (by omega)]
    · have := hb (12 + r.length + k) (by omega)
      rw [show lo * 256 + (p + (12 + r.length)) + k = lo * 256 + p + (12 + r.length + k) by omega, this]
      simp only [frs]
      rw [List.getElem?_append_right (by omega)]
      congr 1; omega
    · rw [show lo * 256 + (p + (12 + r.length) + tot rs) = lo * 256 + (p + tot (r :: rs)) by omega]
      exact hf (by omega)
theorem Laid.chain {P : List UInt8} {lo size : Nat} {rs : List (List UInt8)} (h : Laid P lo size rs) : Chain P lo size rs 0 0 0 :=
  laid_from P lo size h.len rs 0 0 h.shorts (by have := h.fit; omega) (fun k hk => by simpa using h.bytes k hk) (fun hk => by simpa using h.fin (by simpa using hk))
theorem Laid.nil (P : List UInt8) (lo size : Nat) (h : lo * 256 + size ≤ P.length) (h0 : P[lo * 256]? = some 0) : Laid P lo size [] :=
  ⟨Nat.zero_le _, h, fun _ h => (by cases h), fun k hk => (by cases hk), fun _ => by simpa [tot] using h0⟩
theorem Laid.more {S : DS} {n lo hi : Nat} {rs : List (List UInt8)} (h : Laid S.P lo ((hi - lo) * 256) rs) (hP : S.P.length = n * 256) (hlh : lo ≤ hi) (hh : hi ≤ n) (r : List UInt8) (hr : r.length ≤ 65536) (hpl : tot rs + (12 + r.length) ≤ (hi - lo) * 256) (ha : S.armed = 0) (hd : S.down = false) :
    Laid (layD S lo (tot rs) (frB 0 rs.length r) ((hi - lo) * 256)).1.P lo ((hi - lo) * 256) (rs ++ [r]) := by
  obtain ⟨_, _, _, _, _, g6, g7, g8, g9, _⟩ := layD0 S lo hi (tot rs) rs.length r n hP hlh hh hpl ha hd
  have hfl := frs_length 0 rs
  refine ⟨by rw [tot_snoc]; exact hpl, by rw [g6]; omega, fun x hx => ?_, fun k hk => ?_, fun hk => ?_⟩
  · rcases List.mem_append.1 hx with hx | hx
    · exact h.shorts x hx
    · simp at hx; rw [hx]; exact hr
  · rw [tot_snoc] at hk
    rw [frs_snoc]
    by_cases h1 : k < tot rs
    · rw [g7 _ (by omega), h.bytes k h1, List.getElem?_append_left (by omega)]
    · rw [List.getElem?_append_right (by omega), hfl, Nat.zero_add]
      rw [← g8 (k - tot rs) (by omega)]
      congr 1; omega
  · rw [tot_snoc] at hk ⊢
    rw [← g9 (by omega)]
    congr 1; omega
end Go.Proofs.Ythgkkmcpmhfehaa
