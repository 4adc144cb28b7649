/- A list by rising names with one more property, or another value, in its place. -/
import Derived.Test.YtlhfdklfkfodkaaDoorQf
namespace Go.Proofs.YtlhfdklfkfodkaaDoor

def ltP (a b : Pr) : Prop := Op.bytesLess a.name.toList b.name.toList = true
theorem ltP_trans {a b c : Pr} (h : ltP a b) (h' : ltP b c) : ltP a c := bl_trans _ _ _ h h'
theorem pairs_of : ∀ (l : List Pr), rising l = true → l.Pairwise ltP
  | [], _ => List.Pairwise.nil
  | [a], _ => by simp
  | a :: b :: l, h => by
    simp only [rising, Bool.and_eq_true] at h
    have ih := pairs_of (b :: l) h.2
    refine List.Pairwise.cons ?_ ih
    intro c hc
    rcases List.mem_cons.1 hc with rfl | hc
    · exact h.1
    · exact ltP_trans (a := a) (b := b) h.1 ((List.pairwise_cons.1 ih).1 c hc)
theorem rising_of : ∀ (l : List Pr), l.Pairwise ltP → rising l = true
  | [], _ => rfl
  | [a], _ => rfl
  | a :: b :: l, h => by
    have h2 := List.pairwise_cons.1 h
    simp only [rising, Bool.and_eq_true]
    exact ⟨h2.1 b (by simp), rising_of (b :: l) h2.2⟩

theorem getL_mem : ∀ (l : List Pr), l.Pairwise ltP → ∀ q ∈ l, ∀ nm : ByteArray, q.name.toList = nm.toList → getL l nm = some q.val
  | a :: l, h, q, hq, nm, e => by
    have h2 := List.pairwise_cons.1 h
    unfold getL
    rcases List.mem_cons.1 hq with rfl | hq
    · rw [List.find?_cons_of_pos (by simpa using e)]; rfl
    · have hne : a.name.toList ≠ nm.toList := fun e' => by
        have := h2.1 q hq
        unfold ltP at this
        rw [e, ← e', bl_irrefl] at this
        cases this
      rw [List.find?_cons_of_neg (by simpa using hne)]
      exact getL_mem l h2.2 q hq nm e
theorem getL_none {l : List Pr} {nm : ByteArray} (h : ∀ q ∈ l, q.name.toList ≠ nm.toList) : getL l nm = none := by
  unfold getL
  rw [List.find?_eq_none.2 (fun q hq => by simpa using h q hq)]
  rfl

theorem at_none {l : List Pr} (hr : rising l = true) {nm : ByteArray} {k : Nat} (hk : AtP l nm k) (hi : isAt l nm k = false) (j : Nat) (hj : j < l.length) : l[j].name.toList ≠ nm.toList := by
  intro e
  rcases Nat.lt_or_ge j k with h | h
  · have := hk.2.1 j hj h
    unfold lessP at this
    rw [e, bl_irrefl] at this
    cases this
  · rcases Nat.lt_or_ge k j with h' | h'
    · have h1 := hk.2.2 k (by omega) (Nat.le_refl _)
      have h2 := rising_lt l hr k j hj h'
      unfold lessP at h1
      rw [e, h1] at h2
      cases h2
    · have : j = k := by omega
      subst this
      unfold isAt at hi
      exact (of_decide_eq_false hi) ⟨hj, e⟩
theorem at_some {l : List Pr} {nm : ByteArray} {k : Nat} (hi : isAt l nm k = true) : ∃ h : k < l.length, l[k].name.toList = nm.toList := of_decide_eq_true hi
theorem had_is {l : List Pr} (hr : rising l = true) {nm : ByteArray} {k : Nat} (hk : AtP l nm k) : (getL l nm).isSome = isAt l nm k := by
  cases hi : isAt l nm k with
  | true =>
    obtain ⟨h, e⟩ := at_some hi
    rw [getL_mem l (pairs_of l hr) l[k] (List.getElem_mem _) nm e]
    rfl
  | false =>
    rw [getL_none]
    · rfl
    · intro q hq
      obtain ⟨j, hj, rfl⟩ := List.mem_iff_getElem.1 hq
      exact at_none hr hk hi j hj

def enP (l : List Pr) (p : Pr) (k : Nat) : Nat := if isAt l p.name k then k + 1 else k
theorem putL_pairs {l : List Pr} {p : Pr} {k : Nat} (hr : rising l = true) (hk : AtP l p.name k) : (putL l p k).Pairwise ltP := by
  have hp := pairs_of l hr
  have lo : ∀ a ∈ l.take k, ltP a p := fun a ha => by
    obtain ⟨j, hj, rfl⟩ := List.mem_iff_getElem.1 ha
    rw [List.length_take] at hj
    rw [List.getElem_take]
    exact hk.2.1 j (by omega) (by omega)
  have hi : ∀ b ∈ l.drop (enP l p k), ltP p b := fun b hb => by
    obtain ⟨j, hj, rfl⟩ := List.mem_iff_getElem.1 hb
    rw [List.length_drop] at hj
    rw [List.getElem_drop]
    cases e : isAt l p.name k with
    | true =>
      obtain ⟨h, en⟩ := at_some e
      have h2 : enP l p k = k + 1 := by unfold enP; rw [e]; rfl
      have := rising_lt l hr k (enP l p k + j) (by omega) (by omega)
      unfold ltP
      rw [← en]
      exact this
    | false =>
      have h2 : enP l p k = k := by unfold enP; rw [e]; rfl
      have h3 := hk.2.2 (enP l p k + j) (by omega) (by omega)
      have h4 := at_none hr hk e (enP l p k + j) (by omega)
      unfold ltP
      cases h5 : Op.bytesLess p.name.toList (l[enP l p k + j]'(by omega)).name.toList with
      | true => rfl
      | false => exact absurd (bl_tri _ _ h3 h5) h4
  unfold putL
  rw [List.append_assoc, List.pairwise_append]
  refine ⟨hp.sublist (List.take_sublist _ _), ?_, ?_⟩
  · rw [List.singleton_append]
    exact List.Pairwise.cons hi (hp.sublist (List.drop_sublist _ _))
  · intro a ha b hb
    rcases List.mem_append.1 hb with hb | hb
    · rw [List.mem_singleton] at hb; subst hb; exact lo a ha
    · exact ltP_trans (lo a ha) (hi b hb)
theorem putL_len {l : List Pr} {p : Pr} {k : Nat} (hk : AtP l p.name k) : (putL l p k).length = if isAt l p.name k then l.length else l.length + 1 := by
  unfold putL
  have := hk.1
  cases e : isAt l p.name k with
  | true =>
    obtain ⟨h, _⟩ := at_some e
    simp
    omega
  | false =>
    simp
    omega
theorem putL_mem {l : List Pr} {p : Pr} {k : Nat} : p ∈ putL l p k := by
  unfold putL; simp
theorem putL_old {l : List Pr} {p : Pr} {k : Nat} (q : Pr) (hq : q ∈ l) (hne : q.name.toList ≠ p.name.toList) : q ∈ putL l p k := by
  obtain ⟨j, hj, rfl⟩ := List.mem_iff_getElem.1 hq
  unfold putL
  rcases Nat.lt_or_ge j k with h | h
  · refine List.mem_append_left _ (List.mem_append_left _ ?_)
    rw [List.mem_iff_getElem]
    exact ⟨j, by rw [List.length_take]; omega, List.getElem_take ..⟩
  · refine List.mem_append_right _ ?_
    have hen : (if isAt l p.name k then k + 1 else k) ≤ j := by
      split
      · rename_i hi
        obtain ⟨hl, e⟩ := at_some hi
        rcases Nat.lt_or_ge k j with h' | h'
        · omega
        · have : j = k := by omega
          subst this
          exact absurd e hne
      · omega
    rw [List.mem_iff_getElem]
    refine ⟨j - (if isAt l p.name k then k + 1 else k), by rw [List.length_drop]; omega, ?_⟩
    rw [List.getElem_drop]
    congr 1
    omega
theorem putL_sub {l : List Pr} {p : Pr} {k : Nat} (q : Pr) (hq : q ∈ putL l p k) : q ∈ l ∨ q = p := by
  unfold putL at hq
  rcases List.mem_append.1 hq with hq | hq
  · rcases List.mem_append.1 hq with hq | hq
    · exact .inl (List.mem_of_mem_take hq)
    · exact .inr (List.mem_singleton.1 hq)
  · exact .inl (List.mem_of_mem_drop hq)

theorem valid_parts {l : List Pr} (h : validL l = true) : l.length ≤ 16 ∧ (∀ q ∈ l, canB q = true) ∧ rising l = true := by
  unfold validL at h
  simp only [Bool.and_eq_true, decide_eq_true_eq, List.all_eq_true] at h
  exact ⟨h.1, h.2.1, h.2.2⟩
theorem putL_valid {l : List Pr} {p : Pr} {k : Nat} (hv : validL l = true) (hp : canB p = true) (hk : AtP l p.name k) (hf : ¬ (isAt l p.name k = false ∧ l.length = 16)) : validL (putL l p k) = true := by
  obtain ⟨h16, hc, hr⟩ := valid_parts hv
  unfold validL
  simp only [Bool.and_eq_true, decide_eq_true_eq, List.all_eq_true]
  refine ⟨?_, fun q hq => ?_, rising_of _ (putL_pairs hr hk)⟩
  · rw [putL_len hk]
    cases e : isAt l p.name k with
    | true => simpa using h16
    | false =>
      have : l.length ≠ 16 := fun h => hf ⟨e, h⟩
      simp
      omega
  · rcases putL_sub q hq with hq | rfl
    · exact hc q hq
    · exact hp
theorem putL_get {l : List Pr} {p : Pr} {k : Nat} (hv : validL l = true) (hk : AtP l p.name k) : getL (putL l p k) p.name = some p.val :=
  getL_mem _ (putL_pairs (valid_parts hv).2.2 hk) p putL_mem p.name rfl
theorem putL_keep {l : List Pr} {p : Pr} {k : Nat} (hv : validL l = true) (hk : AtP l p.name k) (q : Pr) (hq : q ∈ l) (hne : q.name.toList ≠ p.name.toList) : getL (putL l p k) q.name = some q.val :=
  getL_mem _ (putL_pairs (valid_parts hv).2.2 hk) q (putL_old q hq hne) q.name rfl
end Go.Proofs.YtlhfdklfkfodkaaDoor
