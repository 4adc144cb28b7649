/- What lay leaves, wherever the power goes. -/
import Derived.Test.YthgkkmcpmhfehaaMb
namespace Go.Proofs.Ythgkkmcpmhfehaa
open Go.RowKit Go.Lib
set_option maxRecDepth 100000

/-- Pages of an image, as writes. -/
def logW (i : Nat) (I : List UInt8) (k : Nat) : List (Nat × List UInt8) := (List.range k).map fun j => (i + j, pgI I j)
theorem logW_succ (i : Nat) (I : List UInt8) (k : Nat) : logW i I (k + 1) = logW i I k ++ [(i + k, pgI I k)] := by simp [logW, List.range_succ]
theorem pgI_length (I : List UInt8) (N k : Nat) (hI : I.length = N * 256) (hk : k < N) : (pgI I k).length = 256 := by
  have := Nat.mul_le_mul_right 256 (show k + 1 ≤ N from hk)
  unfold pgI; rw [List.length_take, List.length_drop]; omega
theorem logW_ok (i : Nat) (I : List UInt8) (N n : Nat) (hI : I.length = N * 256) (hn : i + N ≤ n) (k : Nat) (hk : k ≤ N) : LogOk n (logW i I k) := by
  intro x hx
  obtain ⟨j, hj, rfl⟩ := List.mem_map.1 hx
  have hj := List.mem_range.1 hj
  exact ⟨by show i + j < n; omega, pgI_length I N j hI (by omega)⟩
theorem appAll_logW (i : Nat) (I : List UInt8) (N : Nat) (P : List UInt8) (hI : I.length = N * 256) (hP : (i + N) * 256 ≤ P.length) : ∀ k, k ≤ N → appAll P (logW i I k) = splice P (i * 256) (I.take (k * 256))
  | 0, _ => by rw [Nat.zero_mul, List.take_zero, splice_nil]; rfl
  | k + 1, hk => by
    have hk9 := Nat.mul_le_mul_right 256 hk
    have hl : (I.take (k * 256)).length = k * 256 := by rw [List.length_take]; omega
    have hpl : (pgI I k).length = 256 := pgI_length I N k hI (by omega)
    rw [logW_succ, appAll_snoc, appAll_logW i I N P hI hP k (by omega)]
    show splice _ ((i + k) * 256) (pgI I k) = _
    rw [show (i + k) * 256 = i * 256 + (I.take (k * 256)).length by rw [hl]; omega, splice_next _ _ _ _ (by rw [hl, hpl]; omega)]
    congr 1
    unfold pgI
    rw [show (k + 1) * 256 = k * 256 + 256 by omega, List.take_add]

/-- Of writes that were taken back in part, each byte is the old one, or one that was written. -/
theorem partAll_each (n k : Nat) (P : List UInt8) (hP : P.length = n * 256) : ∀ (r : List (Nat × List UInt8)), LogOk n r.reverse → (partAll P k r.reverse).length = P.length ∧ ∀ j, (partAll P k r.reverse)[j]? = P[j]? ∨ ∃ x ∈ r.reverse, x.1 * 256 ≤ j ∧ j < x.1 * 256 + 256 ∧ (partAll P k r.reverse)[j]? = x.2[j - x.1 * 256]?
  | [], _ => ⟨rfl, fun _ => .inl rfl⟩
  | x :: r, hl => by
    rw [List.reverse_cons] at hl ⊢
    obtain ⟨hl', hx1, hx2⟩ := hl.init
    obtain ⟨ih1, ih2⟩ := partAll_each n k P hP r hl'
    generalize r.reverse = log at *
    have hkl := keptAt_le k log.length
    have htl : (x.2.take (keptAt k log.length)).length = keptAt k log.length := by rw [List.length_take]; omega
    have hb := Nat.mul_le_mul_right 256 (show x.1 + 1 ≤ n from hx1)
    have hf : x.1 * 256 + (x.2.take (keptAt k log.length)).length ≤ (partAll P k log).length := by rw [htl, ih1, hP]; omega
    rw [partAll_snoc]
    refine ⟨by rw [length_splice _ _ _ hf, ih1], fun j => ?_⟩
    rw [splice_get _ _ _ hf, htl]
    by_cases h1 : x.1 * 256 ≤ j ∧ j < x.1 * 256 + keptAt k log.length
    · rw [if_pos h1, List.getElem?_take, if_pos (by omega)]
      exact .inr ⟨x, by simp, h1.1, by omega, rfl⟩
    · rw [if_neg h1]
      rcases ih2 j with h | ⟨y, hy, h2, h3, h4⟩
      · exact .inl h
      · exact .inr ⟨y, by simp [hy], h2, h3, h4⟩
theorem part_each (n k : Nat) (P : List UInt8) (log : List (Nat × List UInt8)) (hP : P.length = n * 256) (hl : LogOk n log) : (partAll P k log).length = P.length ∧ ∀ j, (partAll P k log)[j]? = P[j]? ∨ ∃ x ∈ log, x.1 * 256 ≤ j ∧ j < x.1 * 256 + 256 ∧ (partAll P k log)[j]? = x.2[j - x.1 * 256]? := by
  have := partAll_each n k P hP log.reverse (by rwa [List.reverse_reverse])
  rwa [List.reverse_reverse] at this

theorem runW_mk (i : Nat) (I P : List UInt8) (ops armed : Nat) (keep : Int) (n N : Nat) (hP : P.length = n * 256) (hI : I.length = N * 256) (hn : i + N ≤ n) : ∀ k, k ≤ N →
    ((armed = 0 ∨ k < armed) → runW i I (mkS P [] ops false armed keep) k = (mkS P (logW i I k) (ops + k) false (armed - k) keep, 0)) ∧
    (1 ≤ armed → armed ≤ k → runW i I (mkS P [] ops false armed keep) k = (mkS (partAll P keep.toNat (logW i I armed)) [] (ops + armed) true 0 0, 20))
  | 0, _ => ⟨fun _ => rfl, fun h1 h2 => by omega⟩
  | k + 1, hk => by
    obtain ⟨ih1, ih2⟩ := runW_mk i I P ops armed keep n N hP hI hn k (by omega)
    have hs : runW i I (mkS P [] ops false armed keep) (k + 1) = if (runW i I (mkS P [] ops false armed keep) k).2 = 0 then ((runW i I (mkS P [] ops false armed keep) k).1.put (i + k) (pgI I k)).oper else runW i I (mkS P [] ops false armed keep) k := rfl
    rw [hs]
    refine ⟨fun h => ?_, fun h1 h2 => ?_⟩
    · rw [ih1 (by omega), if_pos rfl, put_mk, ← logW_succ]
      rcases h with rfl | h
      · rw [Nat.zero_sub, Nat.zero_sub, oper_mk0]; rfl
      · obtain ⟨m, hm⟩ : ∃ m, armed - k = m + 2 := ⟨armed - k - 2, by omega⟩
        rw [hm, oper_mk2, show armed - (k + 1) = m + 1 by omega]; rfl
    · by_cases h3 : armed ≤ k
      · rw [ih2 h1 h3, if_neg (by simp)]
      · have e : armed = k + 1 := by omega
        rw [ih1 (by omega), if_pos rfl, put_mk, ← logW_succ, show armed - k = 1 by omega, oper_mk1 n P _ _ _ hP (logW_ok i I N n hI hn (k + 1) hk), e]
        rfl

/-- What may be left when the power goes. -/
def Torn (P : List UInt8) (i N : Nat) (I I1 : List UInt8) (P' : List UInt8) : Prop :=
  P'.length = P.length ∧ ((∀ j : Nat, P'[j]? = P[j]? ∨ (i * 256 ≤ j ∧ j < (i + N) * 256 ∧ P'[j]? = I[j - i * 256]?)) ∨ ∀ j : Nat, P'[j]? = (splice P (i * 256) I)[j]? ∨ P'[j]? = (splice P (i * 256) I1)[j]?)

theorem torn_first (i : Nat) (I I1 P : List UInt8) (k n N m : Nat) (hP : P.length = n * 256) (hI : I.length = N * 256) (hn : i + N ≤ n) (hm : m ≤ N) : Torn P i N I I1 (partAll P k (logW i I m)) := by
  obtain ⟨h1, h2⟩ := part_each n k P _ hP (logW_ok i I N n hI hn m hm)
  refine ⟨h1, .inl fun j => ?_⟩
  rcases h2 j with h | ⟨x, hx, h3, h4, h5⟩
  · exact .inl h
  · obtain ⟨a, ha, rfl⟩ := List.mem_map.1 hx
    have ha := List.mem_range.1 ha
    have h3 : (i + a) * 256 ≤ j := h3
    have h4 : j < (i + a) * 256 + 256 := h4
    have hb := Nat.mul_le_mul_right 256 (show i + a + 1 ≤ i + N by omega)
    refine .inr ⟨by omega, by omega, ?_⟩
    rw [h5]
    show (pgI I a)[j - (i + a) * 256]? = _
    unfold pgI
    rw [List.getElem?_take, if_pos (by omega), List.getElem?_drop]
    congr 1; omega
theorem torn_second (i : Nat) (I P : List UInt8) (k n N pf : Nat) (hP : P.length = n * 256) (hI : I.length = N * 256) (hN : 1 ≤ N) (hn : i + N ≤ n) : Torn P i N I (I.set pf 1) (partAll (splice P (i * 256) I) k [(i, pgI (I.set pf 1) 0)]) := by
  have hb := Nat.mul_le_mul_right 256 hn
  have hf : i * 256 + I.length ≤ P.length := by rw [hI, hP]; omega
  have hf1 : i * 256 + (I.set pf 1).length ≤ P.length := by rw [List.length_set]; exact hf
  have hP1 : (splice P (i * 256) I).length = n * 256 := by rw [length_splice _ _ _ hf, hP]
  have hI1 : (I.set pf 1).length = N * 256 := by rw [List.length_set, hI]
  obtain ⟨h1, h2⟩ := part_each n k (splice P (i * 256) I) [(i, pgI (I.set pf 1) 0)] hP1 (fun x hx => by
    simp at hx; rw [hx]; exact ⟨by show i < n; omega, pgI_length _ N 0 hI1 (by omega)⟩)
  refine ⟨by rw [h1, hP1, hP], .inr fun j => ?_⟩
  rcases h2 j with h | ⟨x, hx, h3, h4, h5⟩
  · exact .inl h
  · simp at hx
    subst hx
    have h3 : i * 256 ≤ j := h3
    have h4 : j < i * 256 + 256 := h4
    right
    rw [h5, splice_get _ _ _ hf1, if_pos (by rw [hI1]; omega)]
    show (pgI (I.set pf 1) 0)[j - i * 256]? = _
    unfold pgI
    rw [List.getElem?_take, if_pos (by omega), List.getElem?_drop, Nat.zero_mul, Nat.zero_add]

theorem over_first (i : Nat) (I P : List UInt8) (n N pf : Nat) (hP : P.length = n * 256) (hI : I.length = N * 256) (hN : 1 ≤ N) (hn : i + N ≤ n) : splice (splice P (i * 256) I) (i * 256) (pgI (I.set pf 1) 0) = if pf < 256 then splice P (i * 256) (I.set pf 1) else splice P (i * 256) I := by
  have hb := Nat.mul_le_mul_right 256 hn
  have hf : i * 256 + I.length ≤ P.length := by rw [hI, hP]; omega
  have hI1 : (I.set pf 1).length = N * 256 := by rw [List.length_set, hI]
  have hpl := pgI_length (I.set pf 1) N 0 hI1 (by omega)
  rw [splice_over _ _ _ _ hf (by omega), hpl]
  have : pgI (I.set pf 1) 0 ++ I.drop 256 = if pf < 256 then I.set pf 1 else I := by
    apply List.ext_getElem?
    intro k
    unfold pgI
    rw [Nat.zero_mul, List.drop_zero]
    have hl : ((I.set pf 1).take 256).length = 256 := by rw [List.length_take, hI1]; omega
    by_cases h1 : k < 256
    · rw [List.getElem?_append_left (by omega), List.getElem?_take, if_pos h1]
      split
      · rfl
      · rw [List.getElem?_set, if_neg (by omega)]
    · rw [List.getElem?_append_right (by omega), hl, List.getElem?_drop, show 256 + (k - 256) = k by omega]
      split
      · rw [List.getElem?_set, if_neg (by omega)]
      · rfl
  rw [this]
  split <;> rfl

theorem layE_mk (P : List UInt8) (ops armed : Nat) (keep : Int) (i n N pf : Nat) (I : List UInt8) (hP : P.length = n * 256) (hI : I.length = N * 256) (hN : 1 ≤ N) (hpf : pf < 256) (hn : i + N ≤ n) :
    ((armed = 0 ∨ N + 3 < armed) ∧ layE (mkS P [] ops false armed keep) i I N pf = (mkS (splice P (i * 256) (I.set pf 1)) [] (ops + N + 3) false (armed - (N + 3)) keep, 0)) ∨
    (1 ≤ armed ∧ armed ≤ N + 3 ∧ ∃ P', layE (mkS P [] ops false armed keep) i I N pf = (mkS P' [] (ops + armed) true 0 0, 20) ∧ Torn P i N I (I.set pf 1) P') := by
  obtain ⟨r1, r2⟩ := runW_mk i I P ops armed keep n N hP hI hn N (Nat.le_refl _)
  have hlok := logW_ok i I N n hI hn N (Nat.le_refl _)
  have happ : appAll P (logW i I N) = splice P (i * 256) I := by
    rw [appAll_logW i I N P hI (by rw [hP]; exact Nat.mul_le_mul_right 256 hn) N (Nat.le_refl _), List.take_of_length_le (by omega)]
  have hb := Nat.mul_le_mul_right 256 hn
  have hf : i * 256 + I.length ≤ P.length := by rw [hI, hP]; omega
  have hP1 : (splice P (i * 256) I).length = n * 256 := by rw [length_splice _ _ _ hf, hP]
  have hI1 : (I.set pf 1).length = N * 256 := by rw [List.length_set, hI]
  have hov := over_first i I P n N pf hP hI hN hn
  rw [if_pos hpf] at hov
  have hl1 : LogOk n [(i, pgI (I.set pf 1) 0)] := fun x hx => by
    simp at hx; rw [hx]; exact ⟨by show i < n; omega, pgI_length _ N 0 hI1 (by omega)⟩
  have happ1 : appAll (splice P (i * 256) I) [(i, pgI (I.set pf 1) 0)] = splice P (i * 256) (I.set pf 1) := hov
  by_cases hs : 1 ≤ armed ∧ armed ≤ N
  · right
    refine ⟨hs.1, by omega, _, ?_, torn_first i I (I.set pf 1) P keep.toNat n N armed hP hI hn hs.2⟩
    unfold layE
    rw [r2 hs.1 hs.2, if_pos (by simp)]
  · have r1 := r1 (by omega)
    unfold layE
    rw [r1, if_neg (by simp)]
    by_cases h1 : armed = N + 1
    · right
      refine ⟨by omega, by omega, _, ?_, torn_first i I (I.set pf 1) P keep.toNat n N N hP hI hn (Nat.le_refl _)⟩
      simp only
      rw [show armed - N = 1 by omega, flush_mk1 n P _ _ _ hP hlok, if_pos (by simp), h1]
      rfl
    · have hfl : (mkS P (logW i I N) (ops + N) false (armed - N) keep).flush = (mkS (splice P (i * 256) I) [] (ops + N + 1) false (armed - (N + 1)) keep, 0) := by
        by_cases h0 : armed = 0
        · rw [h0, Nat.zero_sub, Nat.zero_sub, flush_mk0, happ]
        · obtain ⟨m, hm⟩ : ∃ m, armed - N = m + 2 := ⟨armed - N - 2, by omega⟩
          rw [hm, flush_mk2, happ, show armed - (N + 1) = m + 1 by omega]
      simp only
      rw [hfl, if_neg (by simp)]
      simp only
      rw [put_mk, List.nil_append]
      by_cases h2 : armed = N + 2
      · right
        refine ⟨by omega, by omega, _, ?_, torn_second i I P keep.toNat n N pf hP hI hN hn⟩
        rw [show armed - (N + 1) = 1 by omega, oper_mk1 n _ _ _ _ hP1 hl1, if_pos (by simp), h2]
        rfl
      · have ho : (mkS (splice P (i * 256) I) [(i, pgI (I.set pf 1) 0)] (ops + N + 1) false (armed - (N + 1)) keep).oper = (mkS (splice P (i * 256) I) [(i, pgI (I.set pf 1) 0)] (ops + N + 2) false (armed - (N + 2)) keep, 0) := by
          by_cases h0 : armed = 0
          · rw [h0, Nat.zero_sub, Nat.zero_sub, oper_mk0]
          · obtain ⟨m, hm⟩ : ∃ m, armed - (N + 1) = m + 2 := ⟨armed - (N + 1) - 2, by omega⟩
            rw [hm, oper_mk2, show armed - (N + 2) = m + 1 by omega]
        rw [ho, if_neg (by simp)]
        simp only
        by_cases h3 : armed = N + 3
        · right
          refine ⟨by omega, by omega, _, ?_, torn_second i I P keep.toNat n N pf hP hI hN hn⟩
          rw [show armed - (N + 2) = 1 by omega, flush_mk1 n _ _ _ _ hP1 hl1, h3]
          rfl
        · left
          refine ⟨by omega, ?_⟩
          by_cases h0 : armed = 0
          · rw [h0, Nat.zero_sub, Nat.zero_sub, flush_mk0, happ1]
          · obtain ⟨m, hm⟩ : ∃ m, armed - (N + 2) = m + 2 := ⟨armed - (N + 2) - 2, by omega⟩
            rw [hm, flush_mk2, happ1, show armed - (N + 3) = m + 1 by omega]
end Go.Proofs.Ythgkkmcpmhfehaa
