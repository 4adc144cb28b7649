/- Frames and bytes: what is read of a frame with anything behind; that what is read has just its bytes; beginnings. Plain mathematics. -/
import Derived.Test.YtlkinkbdhoejiaaMba
namespace Go.Proofs.Ytlkinkbdhoejiaa
open Go.RowKit
set_option maxRecDepth 100000

theorem numL_from (l : List UInt8) : ∀ a, l.foldl (fun n c => n * 256 + c.toNat) a = a * 256 ^ l.length + numL l := by
  induction l with
  | nil => intro a; simp [numL]
  | cons c l ih =>
    intro a
    have e : numL (c :: l) = l.foldl (fun n c => n * 256 + c.toNat) (0 * 256 + c.toNat) := rfl
    rw [List.foldl_cons, ih, e, ih, List.length_cons, Nat.pow_succ, Nat.add_mul, Nat.zero_mul, Nat.zero_add, Nat.mul_assoc, Nat.mul_comm 256, Nat.add_assoc]
theorem numL_app (a b : List UInt8) : numL (a ++ b) = numL a * 256 ^ b.length + numL b := by
  unfold numL
  rw [List.foldl_append]
  exact numL_from b _
theorem byte_num (l : List UInt8) (i : Nat) (h : i < l.length) : byteOf l.length (numL l) i = l[i] := by
  have e : l = (l.take i ++ [l[i]]) ++ l.drop (i + 1) := by rw [← List.take_succ_eq_append_getElem h, List.take_append_drop]
  have e1 : numL l = (numL (l.take i) * 256 + l[i].toNat) * 256 ^ (l.length - 1 - i) + numL (l.drop (i + 1)) := by
    conv => lhs; rw [e]
    rw [numL_app, numL_snoc, List.length_drop]
    congr 2
    congr 1
    omega
  have hlt := numL_lt (l.drop (i + 1))
  rw [List.length_drop, show l.length - (i + 1) = l.length - 1 - i by omega] at hlt
  have hpos : 0 < 256 ^ (l.length - 1 - i) := Nat.pow_pos (by decide)
  unfold byteOf
  rw [e1, Nat.mul_comm, Nat.mul_add_div hpos, Nat.div_eq_of_lt hlt, Nat.add_zero]
  apply UInt8.toNat_inj.1
  rw [UInt8.toNat_ofNat']
  have := l[i].toNat_lt
  omega
theorem be_num (l : List UInt8) (k : Nat) (h : l.length = k) : beN k (numL l) = l := by
  subst h
  apply List.ext_getElem
  · rw [beN_len]
  · intro i h1 h2
    simp only [beN, List.getElem_map, List.getElem_range]
    exact byte_num l i h2
theorem be1 (t : Nat) : beN 1 t = [UInt8.ofNat t] := by simp [beN, byteOf, List.range_succ]

/-- A frame that can be. -/
structure FrOk (t c : Nat) (p : List UInt8) : Prop where
  ty : tyZ t = true
  t8 : t < 256
  ch : c < 65536
  len : p.length ≤ 16384
theorem frL_eq (t c : Nat) (p : List UInt8) (rest : List UInt8) : frL t c p ++ rest = UInt8.ofNat t :: (beN 2 c ++ (beN 4 p.length ++ (p ++ 206 :: rest))) := by
  simp [frL, be1 t]
theorem next_frame (t c : Nat) (p rest : List UInt8) (h : FrOk t c p) : nextL (frL t c p ++ rest) = ⟨t, c, p, p.length + 8, 0⟩ := by
  rw [frL_eq t c p]
  have h2 : (beN 2 c).length = 2 := beN_len 2 c
  have h4 : (beN 4 p.length).length = 4 := beN_len 4 _
  have e0 : (UInt8.ofNat t :: (beN 2 c ++ (beN 4 p.length ++ (p ++ 206 :: rest)))).getD 0 0 = UInt8.ofNat t := rfl
  have e1 : ((UInt8.ofNat t :: (beN 2 c ++ (beN 4 p.length ++ (p ++ 206 :: rest)))).drop 1).take 2 = beN 2 c := by
    rw [List.drop_succ_cons, List.drop_zero, List.take_left' h2]
  have e3 : (UInt8.ofNat t :: (beN 2 c ++ (beN 4 p.length ++ (p ++ 206 :: rest)))).drop 3 = beN 4 p.length ++ (p ++ 206 :: rest) := by
    rw [List.drop_succ_cons, List.drop_left' h2]
  have e7 : (UInt8.ofNat t :: (beN 2 c ++ (beN 4 p.length ++ (p ++ 206 :: rest)))).drop 7 = p ++ 206 :: rest := by
    have : (7 : Nat) = 3 + 4 := rfl
    rw [this, ← List.drop_drop, e3, List.drop_left' h4]
  have hn : numL (((UInt8.ofNat t :: (beN 2 c ++ (beN 4 p.length ++ (p ++ 206 :: rest)))).drop 3).take 4) = p.length := by
    rw [e3, List.take_left' h4, numL_be 4 p.length (by have := h.len; omega)]
  have hl : (UInt8.ofNat t :: (beN 2 c ++ (beN 4 p.length ++ (p ++ 206 :: rest)))).length = p.length + 8 + rest.length := by
    simp only [List.length_cons, List.length_append, h2, h4]; omega
  have hd : (UInt8.ofNat t :: (beN 2 c ++ (beN 4 p.length ++ (p ++ 206 :: rest)))).getD (7 + p.length) 0 = 206 := by
    rw [List.getD_eq_getElem?_getD, ← List.getElem?_drop, e7, List.getElem?_append_right (Nat.le_refl _), Nat.sub_self]
    rfl
  have ht : (UInt8.ofNat t).toNat = t := by rw [UInt8.toNat_ofNat']; have := h.t8; omega
  generalize UInt8.ofNat t :: (beN 2 c ++ (beN 4 p.length ++ (p ++ 206 :: rest))) = L at *
  unfold nextL
  have hlen := h.len
  rw [hn, hd, e0, ht, if_neg (by rw [h.ty]; simp), if_neg (by omega), if_neg (by omega), if_neg (by omega), if_neg (by simp), e1, e7, List.take_left' rfl, numL_be 2 c h.ch]

theorem next_cases (l : List UInt8) : (nextL l = ⟨0, 0, [], 0, 40⟩ ∨ nextL l = ⟨0, 0, [], 0, 41⟩) ∨ ∃ (t c : Nat) (p rest : List UInt8), FrOk t c p ∧ l = frL t c p ++ rest := by
  unfold nextL
  split
  · exact .inl (.inl rfl)
  · rename_i h0
    split
    · exact .inl (.inr rfl)
    · rename_i h7
      split
      · exact .inl (.inl rfl)
      · rename_i hn
        split
        · exact .inl (.inr rfl)
        · rename_i hle
          split
          · exact .inl (.inl rfl)
          · rename_i hd
            refine .inr ⟨(l.getD 0 0).toNat, numL ((l.drop 1).take 2), (l.drop 7).take (numL ((l.drop 3).take 4)), l.drop (numL ((l.drop 3).take 4) + 8), ⟨?_, (l.getD 0 0).toNat_lt, ?_, ?_⟩, ?_⟩
            · cases ht : tyZ ((l.getD 0 0).toNat : Int) with
              | true => rfl
              | false => exact absurd ⟨by intro e; subst e; simp at h7, ht⟩ h0
            · exact Nat.lt_of_lt_of_le (numL_lt _) (Nat.le_trans (Nat.pow_le_pow_right (by decide) (by rw [List.length_take]; exact Nat.min_le_left 2 _)) (by decide))
            · rw [List.length_take]; omega
            · have hp : ((l.drop 7).take (numL ((l.drop 3).take 4))).length = numL ((l.drop 3).take 4) := by rw [List.length_take, List.length_drop]; omega
              rw [frL_eq _ _ _, hp, be_num _ 2 (by rw [List.length_take, List.length_drop]; omega), be_num _ 4 (by rw [List.length_take, List.length_drop]; omega)]
              generalize numL ((l.drop 3).take 4) = n at *
              match l, h7 with
              | c :: l, h7 =>
                simp only [List.length_cons] at h7 hle
                have hd' : l.getD (6 + n) 0 = 206 := by
                  have : (c :: l).getD (7 + n) 0 = l.getD (6 + n) 0 := by rw [show 7 + n = (6 + n) + 1 by omega]; rfl
                  rw [← this]; simpa using hd
                have hlt : 6 + n < l.length := by omega
                rw [List.getD_eq_getElem?_getD, List.getElem?_eq_getElem hlt, Option.getD_some] at hd'
                have ec : UInt8.ofNat ((c :: l).getD 0 0).toNat = c := by simp
                rw [ec]
                simp only [List.drop_succ_cons, List.drop_zero]
                have s1 : l = l.take 2 ++ ((l.drop 2).take 4 ++ ((l.drop 6).take n ++ (l.drop (6 + n)))) := by
                  have a1 : (l.drop 6).take n ++ l.drop (6 + n) = l.drop 6 := by rw [← List.drop_drop]; exact List.take_append_drop n _
                  have a2 : (l.drop 2).take 4 ++ l.drop 6 = l.drop 2 := by rw [show 6 = 2 + 4 from rfl, ← List.drop_drop]; exact List.take_append_drop 4 _
                  rw [a1, a2, List.take_append_drop]
                have s2 : l.drop (6 + n) = 206 :: l.drop (n + 7) := by
                  rw [List.drop_eq_getElem_cons hlt, hd', show 6 + n + 1 = n + 7 by omega]
                conv => lhs; rw [s1, s2]
end Go.Proofs.Ytlkinkbdhoejiaa
