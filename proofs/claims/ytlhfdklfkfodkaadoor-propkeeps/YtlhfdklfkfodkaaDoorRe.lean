/- The document's way to set a property leads to the same list. -/
import Derived.Test.YtlhfdklfkfodkaaDoorRd
namespace Go.Proofs.YtlhfdklfkfodkaaDoor

theorem at_exists (l : List Pr) (hr : rising l = true) (nm : ByteArray) : ∃ k, AtP l nm k := by
  refine ⟨l.findIdx (fun p => !lessP p nm), List.findIdx_le_length, fun j hj hjk => ?_, fun j hj hjk => ?_⟩
  · have := List.not_of_lt_findIdx hjk
    simpa using this
  · have hlt : l.findIdx (fun p => !lessP p nm) < l.length := by omega
    have h0 := List.findIdx_getElem (w := hlt)
    exact less_above l hr nm _ hlt (by simpa using h0) j hj hjk
theorem at_unique {l : List Pr} {nm : ByteArray} {k k' : Nat} (h : AtP l nm k) (h' : AtP l nm k') : k = k' := by
  rcases Nat.lt_trichotomy k k' with e | e | e
  · have h1 := h'.2.1 k (by have := h'.1; omega) e
    rw [h.2.2 k (by have := h'.1; omega) (Nat.le_refl _)] at h1; cases h1
  · exact e
  · have h1 := h.2.1 k' (by have := h.1; omega) e
    rw [h'.2.2 k' (by have := h.1; omega) (Nat.le_refl _)] at h1; cases h1

/-- What the document holds behind k of the list. -/
def outR (l : List Pr) (p : Pr) (kk k : Nat) : List Pr := if k ≤ kk then l.take k else l.take kk ++ [p] ++ (l.take k).drop (enP l p kk)
theorem outR_low {l : List Pr} {p : Pr} {kk k : Nat} (h : k < kk) (hl : k < l.length) : outR l p kk (k + 1) = outR l p kk k ++ [l[k]] := by
  unfold outR
  rw [if_pos (by omega), if_pos (by omega), List.take_succ_eq_append_getElem hl]
theorem outR_at {l : List Pr} {p : Pr} {kk : Nat} (hl : kk < l.length) (hi : isAt l p.name kk = true) : outR l p kk (kk + 1) = outR l p kk kk ++ [p] := by
  unfold outR
  rw [if_neg (by omega), if_pos (Nat.le_refl _)]
  have : enP l p kk = kk + 1 := by unfold enP; rw [hi]; rfl
  rw [this, List.drop_of_length_le (by rw [List.length_take]; omega), List.append_nil]
theorem outR_new {l : List Pr} {p : Pr} {kk : Nat} (hl : kk < l.length) (hi : isAt l p.name kk = false) : outR l p kk (kk + 1) = outR l p kk kk ++ [p] ++ [l[kk]] := by
  unfold outR
  rw [if_neg (by omega), if_pos (Nat.le_refl _)]
  have : enP l p kk = kk := by unfold enP; rw [hi]; rfl
  rw [this, List.take_succ_eq_append_getElem hl, List.drop_append_of_le_length (by rw [List.length_take]; omega), List.drop_of_length_le (by rw [List.length_take]; omega), List.nil_append]
theorem outR_high {l : List Pr} {p : Pr} {kk k : Nat} (h : kk < k) (hl : k < l.length) : outR l p kk (k + 1) = outR l p kk k ++ [l[k]] := by
  unfold outR
  rw [if_neg (by omega), if_neg (by omega), List.take_succ_eq_append_getElem hl]
  have : enP l p kk ≤ k := by unfold enP; split <;> omega
  rw [List.drop_append_of_le_length (by rw [List.length_take]; omega)]
  simp
theorem outR_end {l : List Pr} {p : Pr} {kk : Nat} (hk : AtP l p.name kk) : putL l p kk = if l.length ≤ kk then outR l p kk l.length ++ [p] else outR l p kk l.length := by
  have hkl := hk.1
  unfold outR putL
  by_cases h : l.length ≤ kk
  · rw [if_pos h, if_pos h, List.take_of_length_le h, List.take_of_length_le (Nat.le_refl _), List.drop_of_length_le (by split <;> omega), List.append_nil]
  · rw [if_neg h, if_neg h, List.take_of_length_le (Nat.le_refl l.length)]
    rfl
theorem outR_len {l : List Pr} {p : Pr} {kk k : Nat} (hk : k ≤ l.length) : (outR l p kk k).length ≤ l.length + 1 := by
  unfold outR
  split
  · rw [List.length_take]; omega
  · rename_i h
    simp only [List.length_append, List.length_take, List.length_drop, List.length_cons, List.length_nil]
    unfold enP
    split <;> omega
/-- How x stands to the name at place k. -/
theorem side_low {l : List Pr} {nm : ByteArray} {kk k : Nat} (hk : AtP l nm kk) (h : k < kk) (hl : k < l.length) : (Op.bytesLess nm.toList l[k].name.toList || nm.toList == l[k].name.toList) = false ∧ (l[k].name.toList == nm.toList) = false := by
  have h1 : Op.bytesLess l[k].name.toList nm.toList = true := hk.2.1 k hl h
  have h2 := bl_asymm _ _ h1
  have h3 : l[k].name.toList ≠ nm.toList := fun e => by rw [e, bl_irrefl] at h1; cases h1
  refine ⟨?_, by simpa using h3⟩
  rw [h2, Bool.false_or]
  simpa using fun e => h3 (Eq.symm e)
theorem side_high {l : List Pr} {nm : ByteArray} {kk k : Nat} (hk : AtP l nm kk) (h : kk ≤ k) (hl : k < l.length) : (Op.bytesLess nm.toList l[k].name.toList || nm.toList == l[k].name.toList) = true := by
  have h1 : Op.bytesLess l[k].name.toList nm.toList = false := hk.2.2 k hl h
  cases e : Op.bytesLess nm.toList l[k].name.toList with
  | true => rfl
  | false => rw [bl_tri _ _ e h1]; simp
theorem side_beyond {l : List Pr} (hr : rising l = true) {nm : ByteArray} {kk k : Nat} (hk : AtP l nm kk) (h : kk < k) (hl : k < l.length) : (l[k].name.toList == nm.toList) = false := by
  have h1 : Op.bytesLess (l[kk]'(by omega)).name.toList nm.toList = false := hk.2.2 kk (by omega) (Nat.le_refl _)
  have h2 := rising_lt l hr kk k hl h
  have h3 : l[k].name.toList ≠ nm.toList := fun e => by rw [e, h1] at h2; cases h2
  simpa using h3
theorem side_at {l : List Pr} {nm : ByteArray} {kk : Nat} (hl : kk < l.length) : (l[kk].name.toList == nm.toList) = isAt l nm kk := by
  unfold isAt
  rw [Bool.eq_iff_iff, beq_iff_eq, decide_eq_true_eq]
  exact ⟨fun e => ⟨hl, e⟩, fun ⟨_, e⟩ => e⟩
end Go.Proofs.YtlhfdklfkfodkaaDoor
