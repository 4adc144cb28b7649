/- Rows of frames: their bytes, where each ends, what is read of a beginning. Plain mathematics. -/
import Derived.Test.YtlkinkbdhoejiaaMb
namespace Go.Proofs.Ytlkinkbdhoejiaa
open Go.RowKit
set_option maxRecDepth 100000

theorem next_part (t c : Nat) (p : List UInt8) (h : FrOk t c p) (k : Nat) (hk : k < p.length + 8) : nextL ((frL t c p).take k) = ⟨0, 0, [], 0, 41⟩ := by
  have hF : (frL t c p).length = p.length + 8 := frL_len t c p
  have hlen : ((frL t c p).take k).length = k := by rw [List.length_take]; omega
  by_cases h0 : k = 0
  · subst h0
    rw [List.take_zero]
    rfl
  · have e0 : ((frL t c p).take k).getD 0 0 = UInt8.ofNat t := by
      rw [List.getD_eq_getElem?_getD, List.getElem?_take_of_lt (by omega)]
      have := frL_eq t c p []
      rw [List.append_nil] at this
      rw [this]
      rfl
    have ht : (UInt8.ofNat t).toNat = t := by rw [UInt8.toNat_ofNat']; have := h.t8; omega
    unfold nextL
    rw [e0, ht, if_neg (by rw [h.ty]; simp), hlen]
    by_cases h7 : k < 7
    · rw [if_pos h7]
    · rw [if_neg h7]
      have hn : numL ((((frL t c p).take k).drop 3).take 4) = p.length := by
        rw [List.drop_take, List.take_take, Nat.min_eq_left (by omega)]
        have := frL_eq t c p []
        rw [List.append_nil] at this
        rw [this, List.drop_succ_cons, List.drop_left' (beN_len 2 c), List.take_left' (beN_len 4 _), numL_be 4 p.length (by have := h.len; omega)]
      have := h.len
      rw [hn, if_neg (by omega), if_pos (by omega)]

/-- A frame as it is handed in. -/
structure Fr where
  t : Int
  c : Int
  p : List UInt8
def Fr.ok (f : Fr) : Prop := FrOk f.t.toNat f.c.toNat f.p ∧ 0 ≤ f.t ∧ 0 ≤ f.c
def Fr.b (f : Fr) : List UInt8 := frL f.t.toNat f.c.toNat f.p
def flatB (fs : List Fr) : List UInt8 := fs.flatMap Fr.b
def off (fs : List Fr) (i : Nat) : Nat := (flatB (fs.take i)).length
theorem flat_snoc (fs : List Fr) (i : Nat) (h : i < fs.length) : flatB (fs.take (i + 1)) = flatB (fs.take i) ++ fs[i].b := by
  rw [List.take_succ_eq_append_getElem h]
  simp only [flatB, List.flatMap_append, List.flatMap_cons, List.flatMap_nil, List.append_nil]
theorem off_zero (fs : List Fr) : off fs 0 = 0 := rfl
theorem off_succ (fs : List Fr) (i : Nat) (h : i < fs.length) : off fs (i + 1) = off fs i + fs[i].b.length := by
  unfold off
  rw [flat_snoc fs i h, List.length_append]
theorem off_all (fs : List Fr) : off fs fs.length = (flatB fs).length := by rw [off, List.take_length]
theorem flat_split (fs : List Fr) (i : Nat) : flatB fs = flatB (fs.take i) ++ flatB (fs.drop i) := by
  conv => lhs; rw [← List.take_append_drop i fs]
  exact List.flatMap_append
theorem off_le (fs : List Fr) (i : Nat) : off fs i ≤ (flatB fs).length := by
  rw [flat_split fs i, List.length_append]; exact Nat.le_add_right ..
theorem flat_drop (fs : List Fr) (i : Nat) (h : i < fs.length) : (flatB fs).drop (off fs i) = fs[i].b ++ flatB (fs.drop (i + 1)) := by
  rw [flat_split fs i, off, List.drop_left' rfl, List.drop_eq_getElem_cons h]
  simp only [flatB, List.flatMap_cons]
theorem b_len (f : Fr) : f.b.length = f.p.length + 8 := frL_len ..
/-- What is read at place i of the bytes that are there. -/
theorem next_at (fs : List Fr) (cut i : Nat) (h : i < fs.length) (hi : off fs i ≤ cut) (ho : fs[i].ok) :
    (cut < off fs (i + 1) ∧ nextL (((flatB fs).take cut).drop (off fs i)) = ⟨0, 0, [], 0, 41⟩) ∨ (off fs (i + 1) ≤ cut ∧ nextL (((flatB fs).take cut).drop (off fs i)) = ⟨fs[i].t.toNat, fs[i].c.toNat, fs[i].p, fs[i].p.length + 8, 0⟩) := by
  have hs := off_succ fs i h
  have hb := b_len fs[i]
  rw [List.drop_take, flat_drop fs i h]
  by_cases hlt : cut < off fs (i + 1)
  · refine .inl ⟨hlt, ?_⟩
    rw [List.take_append_of_le_length (by omega)]
    exact next_part _ _ _ ho.1 _ (by omega)
  · refine .inr ⟨by omega, ?_⟩
    rw [List.take_append]
    rw [List.take_of_length_le (by omega)]
    exact next_frame _ _ _ _ ho.1
theorem next_end (fs : List Fr) (cut : Nat) (hc : cut ≤ (flatB fs).length) : nextL (((flatB fs).take cut).drop (off fs fs.length)) = ⟨0, 0, [], 0, 41⟩ := by
  rw [List.drop_of_length_le (by rw [List.length_take, off_all]; omega)]
  rfl
end Go.Proofs.Ytlkinkbdhoejiaa
