/- slices.SortFunc of pairs; (*Trie).All and Len. Conditions: those that each row states. -/
import Derived.Test.YtcicnbbnkeellaaGreatDoorCn
import Derived.Shelf.SlSortCmp.NoneTotal
namespace Go.Proofs.YtcicnbbnkeellaaGreatDoor
open Go.RowKit
set_option maxRecDepth 100000

theorem lt_plt (x y : Pr) : ltOf cfP x y = plt x y := by
  unfold ltOf cfP plt or2 cmpL Lib.compareInt
  cases h : Op.bytesLess x.1 y.1 with
  | true => simp
  | false =>
    by_cases e : x.1 = y.1
    · have e' : (x.1 == y.1) = true := by simp [e]
      simp only [e, if_true]
      by_cases h1 : x.2 < y.2
      · simp [h1]
      · by_cases h2 : y.2 < x.2
        · simp [h1, h2]
        · simp [h1, h2]
    · simp [e]
theorem swoP : Sort.SWO (ltOf cfP) where
  irrefl x := by rw [lt_plt, plt_irrefl]
  trans x y z h1 h2 := by rw [lt_plt] at *; exact plt_trans _ _ _ h1 h2
  ntrans x y z h1 h2 := by
    rw [lt_plt] at *
    cases e : plt x z with
    | false => rfl
    | true =>
      cases e2 : plt y x with
      | true =>
        have := plt_trans _ _ _ e2 e
        rw [h2] at this
        cases this
      | false =>
        have := plt_tri x y h1 e2
        subst this
        rw [e] at h2
        cases h2
theorem flat_prs (L : List Pr) : Sort.flatK prC 2 L.toArray = (prs L).toArray := by
  apply Array.ext
  · simp [prs_len]
  · intro t h1 h2
    have ht : t < L.length * 2 := by simpa [prs_len] using h2
    have h3 := Sort.get_flatK prC 2 L.toArray t (by simpa using ht)
    rw [getElem!_pos _ t h1] at h3
    rw [h3]
    have hi : t / 2 < L.length := by omega
    have h4 := prs_at L (t / 2) hi (t % 2) (Nat.mod_lt _ (by omega))
    rw [show t / 2 * 2 + t % 2 = t by omega] at h4
    have h5 : (prs L)[t]? = some ((prs L)[t]'(by rw [prs_len]; exact ht)) := List.getElem?_eq_getElem _
    rw [h5] at h4
    have h6 : L.toArray[t / 2]! = L[t / 2] := by rw [getElem!_pos _ _ (by simpa using hi)]; simp
    rw [h6]
    have h7 : t % 2 < (prC L[t / 2]).length := by simp [prC]; omega
    rw [getElem!_pos (prC L[t / 2]) (t % 2) h7]
    rw [List.getElem?_eq_getElem h7] at h4
    injection h4 with h4
    simp [h4]
theorem isAgg41 : ∀ w, (isAgg 41).run Tryz.prog w = .ok true w := Tryz.isAgg41
theorem sizeOf41 : ∀ w, (Go.sizeOf 41).run Tryz.prog w = .ok 2 w := Tryz.sizeOf41
theorem sort_any (w : World) (B : Nat) (v : Value) (L : List Pr) (h : OwnPr w B v L) (hl : L.length ≤ 64) :
    Calls Tryz.prog 39 #[v, .func (.func 40) #[] #[]] w fun e w' => e = .returned (.tuple #[]) ∧ ∃ L' : List Pr, L'.Perm L ∧ (∀ i j (_ : i < j) (_ : j < L'.length), plt L'[j] L'[i] = false) ∧ OwnPr w' B v L' ∧ Below B w w' := by
  obtain ⟨hl2, ⟨rfl, h0⟩ | ⟨g, cap, cur, rfl, hB, hg, hnc, hcm, hcs, hct⟩⟩ := h
  · have hL : L = [] := List.eq_nil_of_length_eq_zero h0
    subst hL
    refine (AnyF.slices_SortFunc_none Tryz.laysSort39 none 0 (.func (.func 40) #[] #[]) w).mono ?_
    rintro e w' ⟨rfl, rfl⟩
    exact ⟨rfl, [], List.Perm.refl _, fun i j _ hj => absurd hj (Nat.not_lt_zero _), ⟨rfl, .inl ⟨rfl, rfl⟩⟩, Below.refl _ _⟩
  · have hH : Sort.HoldsK prC 2 w g 0 L.toArray := by
      unfold Sort.HoldsK
      rw [flat_prs]
      intro j hj
      have hj' : j < (prs L).length := by simpa using hj
      unfold World.cell? World.frozen?
      rw [hg]
      have hjc : j < cur.size := by rw [prs_len] at hj'; omega
      have hcj : cur.toList[j]? = some (prs L)[j] := by
        rw [← List.getElem?_take_of_lt (show j < L.length * 2 by rw [prs_len] at hj'; exact hj'), hct, List.getElem?_eq_getElem hj']
      refine ⟨?_, by simp⟩
      rw [getElem!_pos (prs L).toArray j hj]
      simpa using hcj
    have hc := AnyQ.slices_SortFunc Tryz.laysSort39 2 isAgg41 sizeOf41 prC (fun _ => rfl) (fun x u hu => by simp [prC] at hu; rcases hu with rfl | rfl <;> rfl) cfP swoP 40 #[] g 0 cap L.toArray w (enters_of Tryz.func40 (by kernel_rfl) rfl) (fun m os dk _ x y => clos_any _ x y) hH (lt_of_some hg) (by simp; omega)
    simp only [List.size_toArray] at hc
    refine hc.mono ?_
    rintro e w' ⟨rfl, d', n, os, hp, hs, rfl⟩
    obtain ⟨L', rfl⟩ : ∃ L' : List Pr, d' = L'.toArray := ⟨d'.toList, by simp⟩
    have hlen : L'.length = L.length := by simpa using hp.1
    have hperm : L'.Perm L := by
      have := hp.2.2
      simp only [List.extract_toArray, List.extract_eq_take_drop, List.drop_zero, Nat.sub_zero, List.toList_toArray] at this
      rw [List.take_length, ← hlen, List.take_length] at this
      exact this
    obtain ⟨cur', h1, h2, h3, h4, h5, h6, h7, h8⟩ := put_row (id : Value → Value) w n g 41 cur hg (prs L') (by rw [prs_len, hlen]; omega)
    have hgl := lt_of_some hg
    have hgrow : ∀ b, b < w.heap.size → (Sort.grow (Sort.putRow id (Sort.ahead w n) g 0 (prs L').toArray) os).heap[b]? = (Sort.putRow id (Sort.ahead w n) g 0 (prs L').toArray).heap[b]? := fun b hb => by
      unfold Sort.grow
      rw [Array.getElem?_append_left (by rw [h5]; exact hb)]
    have hW : sortWorldK prC 2 w g 0 n L'.toArray os = Sort.grow (Sort.putRow id (Sort.ahead w n) g 0 (prs L').toArray) os := by
      unfold sortWorldK Sort.putRowK
      rw [flat_prs]
    rw [hW]
    refine ⟨rfl, L', hperm, fun i j hij hj => ?_, ?_, ?_⟩
    · have := hs i j (Nat.zero_le _) hij (by rw [← hlen]; exact hj)
      rw [lt_plt, getElem!_pos _ _ (by simpa using hj), getElem!_pos _ _ (by simp; omega)] at this
      simpa using this
    · refine ⟨by rw [prs_len], .inr ⟨g, cap, cur', by rw [hlen], hB, (hgrow g hgl).trans h1, by omega, hcm, by omega, ?_⟩⟩
      rw [prs_len] at h3
      rw [h3]
      simp
    · refine ⟨h6, h7, h8, ?_, fun b hb => ?_⟩
      · unfold Sort.grow
        simp only [Array.size_append]
        omega
      · by_cases hbw : b < w.heap.size
        · rw [hgrow b hbw, h4 b (by omega)]
        · omega
end Go.Proofs.YtcicnbbnkeellaaGreatDoor
