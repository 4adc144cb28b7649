
/- A float's text is worth what its digits are; other floats, other texts. -/
import Derived.Test.YtlhfdklfkfodkabDoorVd
import Derived.Test.YtlhfdklfkfodkabDoorVe
import Derived.Test.YtlhfdklfkfodkabDoorEl
set_option maxRecDepth 100000
namespace Go.Proofs.YtlhfdklfkfodkabDoor.Ff
open Go.Lib

theorem valL_of {U : List UInt8} {n f : Nat} {x : Int} (hw : wholeL U = n) (hf : fracL U = f) (hx : expL U = x) : valL U = n * 10 ^ (x - (f : Int) + 400).toNat := by
  unfold valL; rw [hw, hf, hx]
theorem exp_none {U : List UInt8} (h : restL U = []) : expL U = 0 := by unfold expL; rw [h]
theorem head_D {D : List UInt8} (h : 1 ≤ D.length) : D = [D.getD 0 0] ++ D.drop 1 := by
  cases D with
  | nil => simp at h
  | cons c l => simp
theorem val_txt (D : List UInt8) (hD : DgL D) (hk : 1 ≤ D.length) (dp : Int) (h0 : -400 ≤ dp - 1) (h1 : dp - 1 ≤ 400) (h2 : -400 ≤ dp - (D.length : Int)) :
    valL (txt false D dp) = numL D * 10 ^ (dp - (D.length : Int) + 400).toNat := by
  have hd0 : DgL [D.getD 0 0] := by
    refine DgL.one ?_
    cases D with
    | nil => simp at hk
    | cons c l => exact hD c (by simp)
  unfold txt
  by_cases hx : dp - 1 < -4 ∨ 6 ≤ dp - 1
  · rw [if_pos hx]
    unfold txtE
    by_cases ho : 1 < D.length
    · have e : sgB false ++ [D.getD 0 0] ++ dotB D ++ [101] ++ expB (dp - 1) = [D.getD 0 0] ++ (46 :: D.drop 1) ++ (101 :: expB (dp - 1)) := by
        unfold dotB sgB; rw [if_pos ho]; simp
      rw [e]
      have f := frac_dot hd0 (hD.drop 1) (x := 101 :: expB (dp - 1)) (.inr ⟨_, rfl⟩)
      have r := (val_dot hd0 (hD.drop 1) (x := 101 :: expB (dp - 1)) (.inr ⟨_, rfl⟩)).2
      rw [valL_of f.2 f.1 (exp_read (dp - 1) h0 h1 _ r), ← head_D hk, List.length_drop]
      congr 3
      omega
    · have e : sgB false ++ [D.getD 0 0] ++ dotB D ++ [101] ++ expB (dp - 1) = [D.getD 0 0] ++ (101 :: expB (dp - 1)) := by
        unfold dotB sgB; rw [if_neg ho]; simp
      have eD : D = [D.getD 0 0] := by
        have := head_D hk
        rwa [List.drop_of_length_le (by omega), List.append_nil] at this
      rw [e]
      have f := frac_plain hd0 (x := 101 :: expB (dp - 1)) (.inr ⟨_, rfl⟩)
      have r := (val_plain hd0 (x := 101 :: expB (dp - 1)) (.inr ⟨_, rfl⟩)).2
      rw [valL_of f.2 f.1 (exp_read (dp - 1) h0 h1 _ r), ← eD]
      congr 3
      omega
  · rw [if_neg hx]
    unfold txtF
    by_cases hz : dp ≤ 0
    · rw [if_pos hz]
      have e : sgB false ++ [48] ++ [46] ++ List.replicate (-dp).toNat 48 ++ D = [48] ++ (46 :: (List.replicate (-dp).toNat 48 ++ D)) ++ [] := by
        unfold sgB; simp
      rw [e]
      have d48 : DgL [48] := DgL.one (by decide)
      have f := frac_dot d48 ((DgL.zeros (-dp).toNat).app hD) (x := []) (.inl rfl)
      have r := (val_dot d48 ((DgL.zeros (-dp).toNat).app hD) (x := []) (.inl rfl)).2
      rw [valL_of f.2 f.1 (exp_none r), numL_append, numL_append, numL_zeros]
      simp only [numL_one, List.length_append, List.length_replicate]
      rw [show (48 : UInt8).toNat - 48 = 0 from rfl, Nat.zero_mul, Nat.zero_mul, Nat.zero_add, Nat.zero_add]
      congr 3
      omega
    · rw [if_neg hz]
      by_cases hl : D.length ≤ dp.toNat
      · rw [if_pos hl]
        have e : sgB false ++ D ++ List.replicate (dp.toNat - D.length) 48 = (D ++ List.replicate (dp.toNat - D.length) 48) ++ [] := by
          unfold sgB; simp
        rw [e]
        have f := frac_plain (hD.app (DgL.zeros (dp.toNat - D.length))) (x := []) (.inl rfl)
        have r := (val_plain (hD.app (DgL.zeros (dp.toNat - D.length))) (x := []) (.inl rfl)).2
        rw [valL_of f.2 f.1 (exp_none r), numL_append, numL_zeros, List.length_replicate, Nat.add_zero, Nat.mul_assoc, ← Nat.pow_add]
        congr 2
        omega
      · rw [if_neg hl]
        have e : sgB false ++ D.take dp.toNat ++ [46] ++ D.drop dp.toNat = D.take dp.toNat ++ (46 :: D.drop dp.toNat) ++ [] := by
          unfold sgB; simp
        rw [e]
        have f := frac_dot (hD.take dp.toNat) (hD.drop dp.toNat) (x := []) (.inl rfl)
        have r := (val_dot (hD.take dp.toNat) (hD.drop dp.toNat) (x := []) (.inl rfl)).2
        rw [valL_of f.2 f.1 (exp_none r), List.take_append_drop, List.length_drop]
        congr 3
        omega
theorem txt_neg (D : List UInt8) (dp : Int) : txt true D dp = 45 :: txt false D dp := by
  unfold txt txtE txtF sgB
  split
  · simp
  · split
    · simp
    · split <;> simp
theorem txt_head (D : List UInt8) (hD : DgL D) (hk : 1 ≤ D.length) (dp : Int) : ∃ c l, txt false D dp = c :: l ∧ 48 ≤ c.toNat ∧ c.toNat ≤ 57 := by
  cases D with
  | nil => simp at hk
  | cons c l =>
    have hc := hD c (by simp)
    unfold txt txtE txtF sgB
    split
    · exact ⟨c, _, by simp [List.getD]; rfl, hc⟩
    · split
      · exact ⟨48, _, by simp; rfl, by decide, by decide⟩
      · split
        · exact ⟨c, _, by simp; rfl, hc⟩
        · next h1 h2 =>
          obtain ⟨k, hk⟩ : ∃ k, dp.toNat = k + 1 := ⟨dp.toNat - 1, by omega⟩
          rw [hk]
          exact ⟨c, _, by simp; rfl, hc⟩
theorem dg_val (u j : Nat) : (dg u j).toNat = 48 + u / 10 ^ j % 10 := by
  unfold dg
  rw [UInt8.toNat_ofNat']
  omega
theorem digL_dg (u : Nat) : DgL (digL u) := fun c hc => by
  unfold digL at hc
  obtain ⟨t, _, rfl⟩ := List.mem_map.1 hc
  rw [dg_val]
  omega
theorem numL_first (u nd : Nat) (hu : u < 10 ^ nd) : ∀ k, k ≤ nd → numL ((List.range k).map fun t => dg u (nd - 1 - t)) = u / 10 ^ (nd - k)
  | 0, _ => by
    rw [Nat.sub_zero, Nat.div_eq_of_lt hu]; rfl
  | k + 1, h => by
    rw [List.range_succ, List.map_append, numL_append, numL_first u nd hu k (by omega)]
    simp only [List.map_cons, List.map_nil, numL_one, List.length_singleton, Nat.pow_one]
    rw [dg_val, show nd - k = (nd - (k + 1)) + 1 from by omega, Nat.pow_succ, ← Nat.div_div_eq_div_mul, show nd - 1 - k = nd - (k + 1) from by omega]
    omega
theorem trail_zero (u nd k : Nat) (hz : ∀ t, k ≤ t → t < nd → dg u (nd - 1 - t) = 48) : ∀ j, j ≤ nd - k → 10 ^ j ∣ u
  | 0, _ => by simp
  | j + 1, h => by
    obtain ⟨v, hv⟩ := trail_zero u nd k hz j (by omega)
    have := hz (nd - 1 - j) (by omega) (by omega)
    rw [show nd - 1 - (nd - 1 - j) = j from by omega] at this
    have h1 := congrArg UInt8.toNat this
    rw [dg_val, show (48 : UInt8).toNat = 48 from rfl] at h1
    have hq : u / 10 ^ j = v := by rw [hv]; exact Nat.mul_div_cancel_left _ (Nat.pow_pos (by omega))
    rw [hq] at h1
    rw [hv, Nat.pow_succ]
    exact Nat.mul_dvd_mul_left _ (Nat.dvd_of_mod_eq_zero (by omega))
theorem numL_digL (u : Nat) : numL (digL u) * 10 ^ (nDigits u - kN u) = u := by
  have ht := kN_trims u
  unfold digL
  rw [numL_first u (nDigits u) (lt_pow_nDigits u) (kN u) ht.1]
  exact Nat.div_mul_cancel (trail_zero u (nDigits u) (kN u) ht.2.1 _ (Nat.le_refl _))

/-- What a number's text is worth. -/
theorem val_num {mt : Nat} {ex : Int} (h : Fin1 mt ex) : valL (numT false mt ex) = decS (upM mt) (upE mt ex) := by
  have hp := dcP_bounds h
  have hn := dcN_bounds h
  have h20 := nDigits_le20 (dcN mt ex) (by have := hn.2; omega)
  have hnd := nDigits_pos (dcN mt ex)
  have hk1 := kN_pos hn.1
  have hk2 := (kN_trims (dcN mt ex)).1
  unfold numT
  rw [val_txt _ (digL_dg _) (by rw [digL_length]; exact hk1) _ (by omega) (by omega) (by rw [digL_length]; omega), digL_length]
  have e : ((nDigits (dcN mt ex) : Int) + dcP mt ex - (kN (dcN mt ex) : Int) + 400).toNat = (nDigits (dcN mt ex) - kN (dcN mt ex)) + (dcP mt ex + 400).toNat := by omega
  rw [e, Nat.pow_add, ← Nat.mul_assoc, numL_digL]
  rfl
end Go.Proofs.YtlhfdklfkfodkabDoor.Ff
