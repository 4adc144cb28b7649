/- A byte of a record, its mark or its seal that was changed is told. -/
import Derived.Test.YtpbpcefcnkfbpaaMb
namespace Go.Proofs.Ytpbpcefcnkfbpaa
open Go.RowKit Go.Lib
set_option maxRecDepth 100000

theorem Sl.set_ne (n : Nat) (l : List UInt8) (i : Nat) (z : UInt8) (hi : i < l.length) (hz : z ≠ l.getD i 0) : Sl.addN n (l.set i z) ≠ Sl.addN n l := by
  intro h
  have h := congrArg (· / 2147483648) h
  simp only [Sl.add_left] at h
  rw [Sl.set_at l i z hi] at h
  exact hz (Sl.goL_tells (Sl.haL n) (l.take i) (l.drop (i + 1)) z (l.getD i 0) (h.trans (congrArg (Sl.goL (Sl.haL n)) (Sl.split_at l i hi))))
theorem Sl.de_inj : ∀ (n : Nat) (l m : List UInt8), l.length = n → m.length = n → Sl.de l = Sl.de m → l = m
  | 0, l, m, h1, h2, _ => by rw [List.length_eq_zero_iff.1 h1, List.length_eq_zero_iff.1 h2]
  | n + 1, l, m, h1, h2, h => by
    have el : l = l.dropLast ++ [l.getLast (by intro e; rw [e] at h1; cases h1)] := (List.dropLast_concat_getLast _).symm
    have em : m = m.dropLast ++ [m.getLast (by intro e; rw [e] at h2; cases h2)] := (List.dropLast_concat_getLast _).symm
    generalize l.getLast (by intro e; rw [e] at h1; cases h1) = a at el
    generalize m.getLast (by intro e; rw [e] at h2; cases h2) = b at em
    have hl : l.dropLast.length = n := by rw [List.length_dropLast]; omega
    have hm : m.dropLast.length = n := by rw [List.length_dropLast]; omega
    rw [el, em, Sl.de_snoc, Sl.de_snoc] at h
    have ha := a.toNat_lt
    have hb := b.toNat_lt
    have h3 : Sl.de l.dropLast = Sl.de m.dropLast := by omega
    have h4 : a = b := UInt8.toNat_inj.1 (by omega)
    rw [el, em, Sl.de_inj n _ _ hl hm h3, h4]

/-- What stands at a place, by its head and its bytes. -/
theorem nxt_by (P : List UInt8) (lo size p c len : Nat) (m : UInt8) (s8 r : List UInt8) (hm : m ≠ 0) (hlen : len ≤ 65536) (h12 : cutB P lo p 12 = (m :: be3 len) ++ s8) (hr : cutB P lo (p + 12) len = r) (hs : p + (12 + len) ≤ size) (hbad : m ≠ 1 ∨ Sl.de s8 ≠ sumN c (be3 len) r) : (nxt P lo size p c).1 = 11 ∨ (nxt P lo size p c).1 = 12 := by
  have e3 : (((m :: be3 len) ++ s8).drop 1).take 3 = be3 len := by simp [be3]
  have e4 : ((m :: be3 len) ++ s8).drop 4 = s8 := by simp [be3]
  have e1 : ((m :: be3 len) ++ s8).getD 0 0 = m := rfl
  unfold nxt
  rw [h12, if_neg (by omega), e3, e4, e1, de_be3 _ hlen, hr, if_neg hm]
  by_cases h1 : m = 1
  · rw [if_neg (by rintro (h | h | h); exact h h1; omega; omega)]
    rcases hbad with h | h
    · exact absurd h1 h
    · rw [if_pos h]; exact .inr rfl
  · rw [if_pos (.inl h1)]; exact .inl rfl
theorem nxt_nought (P : List UInt8) (lo size p c : Nat) (h : P[lo * 256 + p]? = some 0) : (nxt P lo size p c).1 = 0 := nxt_end P lo size p c (fun _ => h)

theorem laid_till (P : List UInt8) (lo size : Nat) (hP : lo * 256 + size ≤ P.length) : ∀ (rs : List (List UInt8)) (p c k : Nat), (∀ r ∈ rs, r.length ≤ 65536) → p + tot rs ≤ size → (∀ k, k < tot rs → P[lo * 256 + p + k]? = (frs c rs)[k]?) → (nxt P lo size (p + tot rs) (c + rs.length)).1 = k → k ≠ 1 → Chain P lo size rs p c k
  | [], p, c, k, _, _, _, hf, hk => ⟨by simpa [tot] using hf, hk⟩
  | r :: rs, p, c, k, hs, hl, hb, hf, hk => by
    have ht : tot (r :: rs) = (12 + r.length) + tot rs := by simp [tot]
    have hfl := frB_length 1 c r
    refine ⟨nxt_frame P lo size p c r (hs r (by simp)) hP (by omega) (fun k hk => ?_), laid_till P lo size hP rs _ _ k (fun x hx => hs x (by simp [hx])) (by omega) (fun k hk => ?_) ?_ hk⟩
    · rw [hb k (by omega)]
      simp only [frs]
      rw [List.getElem?_append_left (by omega)]
    · have := hb (12 + r.length + k) (by omega)
      rw [show lo * 256 + (p + (12 + r.length)) + k = lo * 256 + p + (12 + r.length + k) by omega, this]
      simp only [frs]
      rw [List.getElem?_append_right (by omega)]
      congr 1; omega
    · rw [show p + (12 + r.length) + tot rs = p + tot (r :: rs) by omega, show c + 1 + rs.length = c + (r :: rs).length by simp; omega]
      exact hf

theorem frs_split (ps bs : List (List UInt8)) : ∀ c, frs c (ps ++ bs) = frs c ps ++ frs (c + ps.length) bs := by
  induction ps with
  | nil => intro c; rfl
  | cons a ps ih =>
    intro c
    simp only [List.cons_append, frs, ih, List.append_assoc, List.length_cons]
    rw [show c + 1 + ps.length = c + (ps.length + 1) by omega]
theorem tot_split (ps bs : List (List UInt8)) : tot (ps ++ bs) = tot ps + tot bs := by simp [tot]

/-- One byte of a record's frame is another one: what is found there. -/
theorem nxt_told (P : List UInt8) (lo size p c d : Nat) (r : List UInt8) (y : UInt8) (hr : r.length ≤ 65536) (hP : lo * 256 + size ≤ P.length) (hs : p + (12 + r.length) ≤ size) (hd : d < 12 + r.length) (hd3 : ¬ (1 ≤ d ∧ d ≤ 3)) (hy : some y ≠ (frB 1 c r)[d]?) (h : ∀ k, k < 12 + r.length → P[lo * 256 + p + k]? = if k = d then some y else (frB 1 c r)[k]?) : (nxt P lo size p c).1 = 0 ∨ (nxt P lo size p c).1 = 11 ∨ (nxt P lo size p c).1 = 12 := by
  have hfl := frB_length 1 c r
  have hg : ∀ k, k < 12 → (frB 1 c r)[k]? = ((1 :: be3 r.length) ++ Sl.be8 (sumN c (be3 r.length) r))[k]? := fun k hk => by
    unfold frB
    rw [List.getElem?_append_left (by simp [be3, Sl.be8]; omega)]
  have hg2 : ∀ k, (frB 1 c r)[12 + k]? = r[k]? := fun k => by
    unfold frB
    rw [List.getElem?_append_right (by simp [be3, Sl.be8])]
    congr 1
    simp [be3, Sl.be8]
  have hsl := sumN_lt c (be3 r.length) r
  have h8 : (Sl.be8 (sumN c (be3 r.length) r)).length = 8 := by simp [Sl.be8]
  generalize hs8 : Sl.be8 (sumN c (be3 r.length) r) = s8 at *
  have hde : Sl.de s8 = sumN c (be3 r.length) r := by rw [← hs8]; exact Sl.de_be8 _ (by omega)
  have hb3 : (be3 r.length).length = 3 := rfl
  by_cases h0 : d = 0
  · subst h0
    by_cases y0 : y = 0
    · left
      exact nxt_nought P lo size p c (by have := h 0 (by omega); rw [if_pos rfl, y0] at this; exact this)
    · right
      refine nxt_by P lo size p c r.length y s8 r y0 hr ?_ ?_ hs (.inl ?_)
      · apply list_get_eq
        · rw [cutB_length _ _ _ _ (by omega)]; simp [h8, hb3]
        · intro k hk
          have hk' : k < 12 := by simpa [h8, hb3] using hk
          rw [cut_get _ _ _ _ _ hk', h k (by omega)]
          by_cases e : k = 0
          · subst e; rw [if_pos rfl]; rfl
          · rw [if_neg e, hg k hk']
            obtain ⟨j, rfl⟩ : ∃ j, k = j + 1 := ⟨k - 1, by omega⟩
            rfl
      · apply list_get_eq
        · exact cutB_length _ _ _ _ (by omega)
        · intro k hk
          rw [cut_get _ _ _ _ _ hk, show lo * 256 + (p + 12) + k = lo * 256 + p + (12 + k) by omega, h (12 + k) (by omega), if_neg (by omega), hg2]
      · rintro rfl
        apply hy
        rw [hg 0 (by omega)]; rfl
  · right
    by_cases h12 : d < 12
    · refine nxt_by P lo size p c r.length 1 (s8.set (d - 4) y) r (by decide) hr ?_ ?_ hs (.inr ?_)
      · apply list_get_eq
        · rw [cutB_length _ _ _ _ (by omega)]; simp [h8, hb3]
        · intro k hk
          have hk' : k < 12 := by simpa [h8, hb3] using hk
          rw [cut_get _ _ _ _ _ hk', h k (by omega)]
          by_cases e4 : k < 4
          · rw [if_neg (by omega), hg k hk', List.getElem?_append_left (by simp [hb3]; omega), List.getElem?_append_left (by simp [hb3]; omega)]
          · rw [List.getElem?_append_right (by simp [hb3]; omega), show k - (1 :: be3 r.length).length = k - 4 by simp [hb3], List.getElem?_set]
            by_cases e : k = d
            · rw [if_pos e, if_pos (by omega), if_pos (by omega)]
            · rw [if_neg e, if_neg (by omega), hg k hk', List.getElem?_append_right (by simp [hb3]; omega), show k - (1 :: be3 r.length).length = k - 4 by simp [hb3]]
      · apply list_get_eq
        · exact cutB_length _ _ _ _ (by omega)
        · intro k hk
          rw [cut_get _ _ _ _ _ hk, show lo * 256 + (p + 12) + k = lo * 256 + p + (12 + k) by omega, h (12 + k) (by omega), if_neg (by omega), hg2]
      · rw [← hde]
        intro e
        have e := Sl.de_inj 8 _ _ (by rw [List.length_set, h8]) h8 e
        apply hy
        rw [hg d h12, List.getElem?_append_right (by simp [hb3]; omega), show d - (1 :: be3 r.length).length = d - 4 by simp [hb3]]
        have := congrArg (·[d - 4]?) e
        simp only [List.getElem?_set] at this
        rw [if_pos trivial, if_pos (by omega)] at this
        exact this
    · refine nxt_by P lo size p c r.length 1 s8 (r.set (d - 12) y) (by decide) hr ?_ ?_ hs (.inr ?_)
      · apply list_get_eq
        · rw [cutB_length _ _ _ _ (by omega)]; simp [h8, hb3]
        · intro k hk
          have hk' : k < 12 := by simpa [h8, hb3] using hk
          rw [cut_get _ _ _ _ _ hk', h k (by omega), if_neg (by omega), hg k hk']
      · apply list_get_eq
        · rw [List.length_set]; exact cutB_length _ _ _ _ (by omega)
        · intro k hk
          rw [List.length_set] at hk
          rw [cut_get _ _ _ _ _ hk, show lo * 256 + (p + 12) + k = lo * 256 + p + (12 + k) by omega, h (12 + k) (by omega), List.getElem?_set]
          by_cases e : 12 + k = d
          · rw [if_pos e, if_pos (by omega), if_pos (by omega)]
          · rw [if_neg e, if_neg (by omega), hg2]
      · rw [hde]
        intro e
        refine Sl.set_ne _ r (d - 12) y (by omega) (fun e' => hy ?_) e.symm
        have := hg2 (d - 12)
        rw [show 12 + (d - 12) = d by omega] at this
        rw [this, e', List.getD_eq_getElem?_getD, List.getElem?_eq_getElem (by omega)]
        rfl

theorem Laid.told {P P' : List UInt8} {lo size : Nat} {ps bs : List (List UInt8)} {r : List UInt8} (hl : Laid P lo size (ps ++ r :: bs)) (d : Nat) (y : UInt8) (hd : d < 12 + r.length) (hd3 : ¬ (1 ≤ d ∧ d ≤ 3)) (hy : some y ≠ P[lo * 256 + (tot ps + d)]?) (hP : P'.length = P.length) (hg : ∀ k, P'[k]? = if k = lo * 256 + (tot ps + d) then some y else P[k]?) :
    ∃ k, (k = 0 ∨ k = 11 ∨ k = 12) ∧ Chain P' lo size ps 0 0 k := by
  have hfit := hl.fit
  have hlen := hl.len
  have htt : tot (ps ++ r :: bs) = tot ps + ((12 + r.length) + tot bs) := by rw [tot_split]; simp [tot]
  have hb : ∀ k, k < 12 + r.length → P[lo * 256 + tot ps + k]? = (frB 1 ps.length r)[k]? := fun k hk => by
    have := hl.bytes (tot ps + k) (by omega)
    rw [show lo * 256 + tot ps + k = lo * 256 + (tot ps + k) by omega, this, frs_split, List.getElem?_append_right (by rw [frs_length]; omega), frs_length, show tot ps + k - tot ps = k by omega, Nat.zero_add]
    simp only [frs]
    rw [List.getElem?_append_left (by rw [frB_length]; omega)]
  have hnx := nxt_told P' lo size (tot ps) ps.length d r y (hl.shorts r (by simp)) (by omega) (by omega) hd hd3 (by
    rw [← hb d hd, show lo * 256 + tot ps + d = lo * 256 + (tot ps + d) by omega]; exact hy) (fun k hk => by
    rw [hg]
    by_cases e : k = d
    · rw [if_pos (by omega), if_pos e]
    · rw [if_neg (by omega), if_neg e, hb k hk])
  have hch := laid_till P' lo size (by omega) ps 0 0 _ (fun x hx => hl.shorts x (by simp [hx])) (by omega) (fun k hk => by
    rw [hg, if_neg (by omega), Nat.add_zero, hl.bytes k (by omega), frs_split, List.getElem?_append_left (by rw [frs_length]; omega)]) rfl (by
    rw [Nat.zero_add, Nat.zero_add]
    rcases hnx with h | h | h <;> rw [h] <;> decide)
  rw [Nat.zero_add, Nat.zero_add] at hch
  exact ⟨_, hnx, hch⟩
end Go.Proofs.Ytpbpcefcnkfbpaa
