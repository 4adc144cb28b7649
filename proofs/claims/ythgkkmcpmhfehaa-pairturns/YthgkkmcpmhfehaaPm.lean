/- What a Save leaves, wherever the power goes. -/
import Derived.Test.YthgkkmcpmhfehaaPf
import Derived.Test.YthgkkmcpmhfehaaPi
namespace Go.Proofs.Ythgkkmcpmhfehaa
open Go.RowKit Go.Lib Go.Shelf
set_option maxRecDepth 100000

theorem layP_mk (P : List UInt8) (ops armed : Nat) (keep : Int) (i n N : Nat) (I : List UInt8) (hP : P.length = n * 256) (hI : I.length = N * 256) (hn : i + N ≤ n) :
    ((armed = 0 ∨ N + 1 < armed) ∧ layP (mkS P [] ops false armed keep) i I N = (mkS (splice P (i * 256) I) [] (ops + N + 1) false (armed - (N + 1)) keep, 0)) ∨
    (1 ≤ armed ∧ armed ≤ N + 1 ∧ ∃ P', layP (mkS P [] ops false armed keep) i I N = (mkS P' [] (ops + armed) true 0 0, 20) ∧ P'.length = P.length ∧ ∀ j : Nat, P'[j]? = P[j]? ∨ (i * 256 ≤ j ∧ j < (i + N) * 256)) := by
  obtain ⟨r1, r2⟩ := runW_mk i I P ops armed keep n N hP hI hn N (Nat.le_refl _)
  have hlok := logW_ok i I N n hI hn N (Nat.le_refl _)
  have happ : appAll P (logW i I N) = splice P (i * 256) I := by
    rw [appAll_logW i I N P hI (by rw [hP]; exact Nat.mul_le_mul_right 256 hn) N (Nat.le_refl _), List.take_of_length_le (by omega)]
  have htorn : ∀ m, m ≤ N → (partAll P keep.toNat (logW i I m)).length = P.length ∧ ∀ j : Nat, (partAll P keep.toNat (logW i I m))[j]? = P[j]? ∨ (i * 256 ≤ j ∧ j < (i + N) * 256) := fun m hm => by
    obtain ⟨h1, h2⟩ := part_each n keep.toNat P _ hP (logW_ok i I N n hI hn m hm)
    refine ⟨h1, fun j => ?_⟩
    rcases h2 j with h | ⟨x, hx, h3, h4, h5⟩
    · exact .inl h
    · obtain ⟨a, ha, rfl⟩ := List.mem_map.1 hx
      have ha := List.mem_range.1 ha
      have h3 : (i + a) * 256 ≤ j := h3
      have h4 : j < (i + a) * 256 + 256 := h4
      have hb := Nat.mul_le_mul_right 256 (show i + a + 1 ≤ i + N by omega)
      exact .inr ⟨by omega, by omega⟩
  by_cases hs : 1 ≤ armed ∧ armed ≤ N
  · right
    obtain ⟨t1, t2⟩ := htorn armed hs.2
    refine ⟨hs.1, by omega, _, ?_, t1, t2⟩
    unfold layP
    rw [r2 hs.1 hs.2, if_pos (by simp)]
  · have r1 := r1 (by omega)
    unfold layP
    rw [r1, if_neg (by simp)]
    simp only
    by_cases h1 : armed = N + 1
    · right
      obtain ⟨t1, t2⟩ := htorn N (Nat.le_refl _)
      refine ⟨by omega, by omega, _, ?_, t1, t2⟩
      rw [show armed - N = 1 by omega, flush_mk1 n P _ _ _ hP hlok, h1]
      rfl
    · left
      refine ⟨by omega, ?_⟩
      by_cases h0 : armed = 0
      · rw [h0, Nat.zero_sub, Nat.zero_sub, flush_mk0, happ]
      · obtain ⟨m, hm⟩ : ∃ m, armed - N = m + 2 := ⟨armed - N - 2, by omega⟩
        rw [hm, flush_mk2, happ, show armed - (N + 1) = m + 1 by omega]

theorem tellD_mk (P : List UInt8) (ops armed : Nat) (keep : Int) (n a : Nat) (hP : P.length = n * 256) (hn : 1 ≤ n) :
    ((armed = 0 ∨ 2 < armed) ∧ tellD (mkS P [] ops false armed keep) a = (mkS (splice P 0 (pgT a)) [] (ops + 2) false (armed - 2) keep, 0)) ∨
    (1 ≤ armed ∧ armed ≤ 2 ∧ ∃ P', tellD (mkS P [] ops false armed keep) a = (mkS P' [] (ops + armed) true 0 0, 20) ∧ P'.length = P.length ∧ ∀ j : Nat, P'[j]? = P[j]? ∨ (j < 256 ∧ P'[j]? = (pgT a)[j]?)) := by
  have hl1 : LogOk n [(0, pgT a)] := fun x hx => by
    simp at hx; rw [hx]; exact ⟨by show 0 < n; omega, pgT_length a⟩
  have happ : appAll P [(0, pgT a)] = splice P 0 (pgT a) := rfl
  have htorn : (partAll P keep.toNat [(0, pgT a)]).length = P.length ∧ ∀ j : Nat, (partAll P keep.toNat [(0, pgT a)])[j]? = P[j]? ∨ (j < 256 ∧ (partAll P keep.toNat [(0, pgT a)])[j]? = (pgT a)[j]?) := by
    obtain ⟨h1, h2⟩ := part_each n keep.toNat P [(0, pgT a)] hP hl1
    refine ⟨h1, fun j => ?_⟩
    rcases h2 j with h | ⟨x, hx, h3, h4, h5⟩
    · exact .inl h
    · simp at hx
      subst hx
      have h4 : j < 0 * 256 + 256 := h4
      exact .inr ⟨by omega, by rw [h5]; rfl⟩
  unfold tellD
  rw [put_mk, List.nil_append]
  by_cases h1 : armed = 1
  · right
    refine ⟨by omega, by omega, _, ?_, htorn.1, htorn.2⟩
    rw [h1, oper_mk1 n _ _ _ _ hP hl1, if_pos (by simp)]
  · have ho : (mkS P [(0, pgT a)] ops false armed keep).oper = (mkS P [(0, pgT a)] (ops + 1) false (armed - 1) keep, 0) := by
      by_cases h0 : armed = 0
      · rw [h0, oper_mk0]
      · obtain ⟨m, hm⟩ : ∃ m, armed = m + 2 := ⟨armed - 2, by omega⟩
        rw [hm, oper_mk2, show m + 2 - 1 = m + 1 by omega]
    rw [ho, if_neg (by simp)]
    simp only
    by_cases h2 : armed = 2
    · right
      refine ⟨by omega, by omega, _, ?_, htorn.1, htorn.2⟩
      rw [h2, show 2 - 1 = 1 from rfl, flush_mk1 n _ _ _ _ hP hl1]
    · left
      refine ⟨by omega, ?_⟩
      by_cases h0 : armed = 0
      · rw [h0, Nat.zero_sub, flush_mk0, happ]
      · obtain ⟨m, hm⟩ : ∃ m, armed - 1 = m + 2 := ⟨armed - 1 - 2, by omega⟩
        rw [hm, flush_mk2, happ, show armed - 2 = m + 1 by omega]

theorem Laid.same {P P' : List UInt8} {lo size : Nat} {rs : List (List UInt8)} (h : Laid P lo size rs) (hl : P'.length = P.length) (hs : ∀ j, lo * 256 ≤ j → j < lo * 256 + size → P'[j]? = P[j]?) : Laid P' lo size rs :=
  ⟨h.fit, by rw [hl]; exact h.len, h.shorts, fun k hk => by rw [hs _ (by omega) (by have := h.fit; omega)]; exact h.bytes k hk, fun hf => by rw [hs _ (by omega) (by omega)]; exact h.fin hf⟩
theorem cutB_same {P P' : List UInt8} {lo m : Nat} (hs : ∀ j, lo * 256 ≤ j → j < lo * 256 + m → P'[j]? = P[j]?) : cutB P' lo 0 m = cutB P lo 0 m := by
  unfold cutB
  apply List.ext_getElem?
  intro k
  by_cases hk : k < m
  · rw [List.getElem?_take, if_pos hk, List.getElem?_take, if_pos hk, List.getElem?_drop, List.getElem?_drop]
    exact hs _ (by omega) (by omega)
  · rw [List.getElem?_take, if_neg hk, List.getElem?_take, if_neg hk]
theorem SnapAt.same {P P' : List UInt8} {lo : Nat} {b : List UInt8} (h : SnapAt P lo b) (hs : ∀ j, lo * 256 ≤ j → j < (lo + takesN b.length) * 256 → P'[j]? = P[j]?) : SnapAt P' lo b := by
  have ht : 12 + b.length ≤ takesN b.length * 256 := by unfold takesN; omega
  rcases h with ⟨h1, h2⟩ | h
  · exact .inl ⟨h1, by rw [cutB_same (fun j hj hj' => hs j hj (by omega))]; exact h2⟩
  · exact .inr (by rw [cutB_same (fun j hj hj' => hs j hj (by omega))]; exact h)

theorem halves (n half : Nat) (hh : half ≤ 1) (hn : 1 ≤ n) : 1 ≤ firstN n half ∧ firstN n half + spanN n ≤ n ∧ (firstN n half + spanN n ≤ firstN n (1 - half) ∨ firstN n (1 - half) + spanN n ≤ firstN n half) := by
  unfold firstN spanN
  rcases (show half = 0 ∨ half = 1 by omega) with rfl | rfl
  · simp only [Nat.sub_zero]; omega
  · simp only [Nat.sub_self]; omega

/-- The other half may be torn. -/
theorem PP.other {P P' : List UInt8} {n half : Nat} {b : List UInt8} {rs : List (List UInt8)} (h : PP P n half b rs) (hl : P'.length = P.length) (h0 : P'[0]? = P[0]?) (hs : ∀ j, firstN n half * 256 ≤ j → j < (firstN n half + spanN n) * 256 → P'[j]? = P[j]?) : PP P' n half b rs := by
  have htk := h.tk
  refine ⟨h.h1, h0.trans h.t, h.sn.same (fun j hj hj' => hs j hj (by omega)), h.tk, h.la.same hl (fun j hj hj' => hs j (by omega) (by omega)), h.bl⟩

theorem PP.saved {P P' : List UInt8} {n a : Nat} {b : List UInt8} (ha : a ≤ 1) (hn : 1 ≤ n) (hbl : b.length ≤ 1048576) (htk : takesN b.length < spanN n) (hl : P'.length = n * 256) (h0 : P'[0]? = some (UInt8.ofNat a)) (hs : ∀ j, firstN n a * 256 ≤ j → j < (firstN n a + (takesN b.length + 1)) * 256 → P'[j]? = (splice P (firstN n a * 256) (snI b))[j]?) (hP : P.length = n * 256) : PP P' n a b [] := by
  obtain ⟨h1, h2, _⟩ := halves n a ha hn
  have hI := snI_length b
  have hf : firstN n a * 256 + (snI b).length ≤ P.length := by rw [hI, hP]; omega
  have hb12 : 12 + b.length ≤ takesN b.length * 256 := by unfold takesN; omega
  have hg : ∀ j, j < (takesN b.length + 1) * 256 → P'[firstN n a * 256 + j]? = (snI b)[j]? := fun j hj => by
    rw [hs _ (by omega) (by omega), splice_get _ _ _ hf, if_pos (by rw [hI]; omega)]
    congr 1; omega
  refine ⟨ha, h0, .inr ?_, htk, Laid.nil _ _ _ (by rw [hl]; omega) ?_, hbl⟩
  · apply List.ext_getElem?
    intro k
    unfold cutB
    by_cases hk : k < 12 + b.length
    · rw [List.getElem?_take, if_pos hk, List.getElem?_drop, Nat.add_zero, hg k (by omega)]
      unfold snI
      rw [List.getElem?_append_left (by rw [snB_length]; exact hk)]
    · rw [List.getElem?_take, if_neg hk, List.getElem?_eq_none (by rw [snB_length]; omega)]
  · have := hg (takesN b.length * 256) (by omega)
    rw [show (firstN n a + takesN b.length) * 256 = firstN n a * 256 + takesN b.length * 256 by omega, this]
    unfold snI
    rw [List.getElem?_append_right (by rw [snB_length]; omega), snB_length, List.getElem?_replicate, if_pos (by omega)]
end Go.Proofs.Ythgkkmcpmhfehaa
