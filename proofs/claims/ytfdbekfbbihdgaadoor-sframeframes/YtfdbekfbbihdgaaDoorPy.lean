
/- A length's text by its digits: the document's size. No memory in this text. -/
import Derived.Test.YtfdbekfbbihdgaaDoorPt
namespace Go.Proofs.YtfdbekfbbihdgaaDoor
open Go.Lib
set_option linter.unusedSimpArgs false

def lenI (t : Bs) : Int := match lenL t with
  | some n => (n : Int)
  | none => -2
def sizeI (H : List Hd) : Int := match getL CL H with
  | some t => lenI t
  | none => -1
def digB (c : UInt8) : Bool := decide (48 ≤ c.toNat) && decide (c.toNat ≤ 57)
theorem digB_val {c : UInt8} (h : digB c = true) : digitVal c = some (c.toNat - 48) := by
  unfold digB at h
  unfold digitVal
  simp only [Bool.and_eq_true, decide_eq_true_eq] at h
  rw [if_pos h]
theorem digB_no {c : UInt8} (h : digB c = false) : digitVal c = none := by
  unfold digB at h
  unfold digitVal
  rw [if_neg]
  simpa [Nat.not_le] using h
theorem u8_back (c : UInt8) (h : digB c = true) : UInt8.ofNat (48 + (c.toNat - 48)) = c := by
  unfold digB at h
  simp only [Bool.and_eq_true, decide_eq_true_eq] at h
  rw [show 48 + (c.toNat - 48) = c.toNat by omega]
  simp
theorem decFrom_app (c : UInt8) : ∀ (l : Bs) (acc : Nat), digitVal c = none → decFrom acc (l ++ [c]) = none
  | [], acc, h => by simp [decFrom, h]
  | b :: l, acc, h => by
    simp only [List.cons_append, decFrom]
    cases digitVal b with
    | none => rfl
    | some x => exact decFrom_app c l _ h
theorem decFrom_mem : ∀ (l : Bs) (acc : Nat) {c : UInt8}, c ∈ l → digitVal c = none → decFrom acc l = none
  | b :: l, acc, c, hc, h => by
    rw [decFrom]
    rcases List.mem_cons.1 hc with rfl | hc
    · rw [h]
    · cases digitVal b with
      | none => rfl
      | some x => exact decFrom_mem l _ hc h
/-- Digits without a nought ahead are the number's own. -/
theorem digits_own : ∀ (k : Nat) (t : Bs) (m : Nat), t.length = k + 1 → t.getD 0 0 ≠ 48 → decFrom 0 t = some m → 1 ≤ m ∧ decDigits m = t
  | 0, t, m, hk, h0, hm => by
    match t, hk, h0, hm with
    | [c], _, h0, hm =>
      cases hd : digB c with
      | false => simp [decFrom, digB_no hd] at hm
      | true =>
        simp [decFrom, digB_val hd] at hm
        have hb := u8_back c hd
        unfold digB at hd
        simp only [Bool.and_eq_true, decide_eq_true_eq] at hd
        have hc : c.toNat ≠ 48 := fun e => h0 (UInt8.toNat.inj (show c.toNat = 48 from e))
        subst hm
        refine ⟨by omega, ?_⟩
        rw [decDigits, dif_pos (by omega), hb]
  | k + 1, t, m, hk, h0, hm => by
    obtain ⟨l, c, rfl⟩ : ∃ l c, t = l ++ [c] := ⟨t.dropLast, t.getLast (by intro e; subst e; cases hk), (List.dropLast_concat_getLast _).symm⟩
    have hl : l.length = k + 1 := by simpa using hk
    have h0' : l.getD 0 0 ≠ 48 := by
      cases l with
      | nil => cases hl
      | cons a l => simpa using h0
    cases hd : digB c with
    | false => rw [decFrom_app c l 0 (digB_no hd)] at hm; cases hm
    | true =>
      rw [decFrom_snoc c _ (digB_val hd)] at hm
      cases hv : decFrom 0 l with
      | none => rw [hv] at hm; cases hm
      | some m' =>
        rw [hv] at hm
        obtain ⟨h1, h2⟩ := digits_own k l m' hl h0' hv
        have hb := u8_back c hd
        unfold digB at hd
        simp only [Bool.and_eq_true, decide_eq_true_eq] at hd
        have hm : m' * 10 + (c.toNat - 48) = m := by simpa using hm
        refine ⟨by omega, ?_⟩
        rw [decDigits, dif_neg (by omega), show m / 10 = m' by omega, h2, show m % 10 = c.toNat - 48 by omega, hb]
theorem digits_head (n : Nat) : 1 ≤ n → (decDigits n).getD 0 0 ≠ 48 := by
  induction n using Nat.strongRecOn with
  | _ n ih =>
    intro h
    rw [decDigits]
    split
    · rename_i h9
      have : ∀ d : Fin 10, 1 ≤ d.val → UInt8.ofNat (48 + d.val) ≠ 48 := by decide
      exact this ⟨n, h9⟩ h
    · rename_i h9
      have h1 := ih (n / 10) (by omega) (by omega)
      have h2 := (digits_all (n / 10)).1
      cases hd : decDigits (n / 10) with
      | nil => exact absurd hd h2
      | cons a l => rw [hd] at h1; simpa using h1
theorem atoi_digits {n : Nat} (h : n ≤ 1024) : decFrom 0 (itoa (n : Int)) = some n ∧ 1 ≤ (itoa (n : Int)).length ∧ (itoa (n : Int)).length ≤ 4 ∧ (1 < (itoa (n : Int)).length → (itoa (n : Int)).getD 0 0 ≠ 48) := by
  have e : itoa (n : Int) = decDigits n := by unfold itoa; rw [if_neg (by omega)]; simp
  rw [e]
  refine ⟨decFrom_digits n, ?_, digits_len 3 n (by omega), fun h2 => ?_⟩
  · have := (digits_all n).1
    exact List.length_pos_iff.2 this
  · refine digits_head n ?_
    rcases Nat.eq_zero_or_pos n with rfl | h3
    · rw [decDigits, dif_pos (by decide)] at h2; exact absurd h2 (by decide)
    · exact h3
theorem lenL_text {t : Bs} {n : Nat} (h : lenL t = some n) : n ≤ 1024 ∧ t = itoa (n : Int) := by
  unfold lenL at h
  split at h
  · rename_i v _
    split at h
    · rename_i h2
      injection h with h
      subst h
      refine ⟨by omega, ?_⟩
      rw [Int.toNat_of_nonneg h2.1]
      exact h2.2.2.symm
    · cases h
  · cases h
/-- What the document's size comes to: bad beginnings, bytes that are no digits, too much, and the rest. -/
theorem lenI_bad {t : Bs} (h : t.length < 1 ∨ 4 < t.length ∨ (t.getD 0 0 = 48 ∧ 1 < t.length)) : lenI t = -2 := by
  unfold lenI
  cases hl : lenL t with
  | none => rfl
  | some n =>
    obtain ⟨h1, rfl⟩ := lenL_text hl
    obtain ⟨_, h3, h4, h5⟩ := atoi_digits h1
    rcases h with h | h | ⟨h, h6⟩
    · omega
    · omega
    · exact absurd h (h5 h6)
theorem lenI_nodigit {t : Bs} {c : UInt8} (hc : c ∈ t) (h : digB c = false) : lenI t = -2 := by
  unfold lenI
  cases hl : lenL t with
  | none => rfl
  | some n =>
    obtain ⟨h1, rfl⟩ := lenL_text hl
    have := (atoi_digits h1).1
    rw [decFrom_mem _ 0 hc (digB_no h)] at this
    cases this
theorem lenI_num {t : Bs} {m : Nat} (h1 : 1 ≤ t.length) (h0 : t.getD 0 0 ≠ 48 ∨ t.length = 1) (hm : decFrom 0 t = some m) : lenI t = if 1024 < m then -2 else (m : Int) := by
  unfold lenI
  have ht : t = itoa (m : Int) := by
    have e : itoa (m : Int) = decDigits m := by unfold itoa; rw [if_neg (by omega)]; simp
    rw [e]
    rcases h0 with h0 | h0
    · exact (digits_own (t.length - 1) t m (by omega) h0 hm).2.symm
    · match t, h0, hm with
      | [c], _, hm =>
        cases hd : digB c with
        | false => simp [decFrom, digB_no hd] at hm
        | true =>
          simp [decFrom, digB_val hd] at hm
          have hb := u8_back c hd
          unfold digB at hd
          simp only [Bool.and_eq_true, decide_eq_true_eq] at hd
          subst hm
          rw [decDigits, dif_pos (by omega), hb]
  by_cases h2 : m ≤ 1024
  · rw [if_neg (by omega), ht, lenL_itoa m h2]
  · rw [if_pos (by omega)]
    cases hl : lenL t with
    | none => rfl
    | some n =>
      obtain ⟨h3, h4⟩ := lenL_text hl
      have h5 := (atoi_digits h3).1
      rw [← h4, hm] at h5
      injection h5 with h5
      omega
end Go.Proofs.YtfdbekfbbihdgaaDoor
