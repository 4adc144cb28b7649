/- The document's own view of a drum: what is safe, and the writes that wait; a loss of power keeps the first bytes of what waits. -/
import Derived.Test.YthgkkmcpmhfehaaWriteOk
namespace Go.Proofs.Ythgkkmcpmhfehaa
open Go.RowKit Go.Lib
set_option maxRecDepth 100000

theorem splice_get (P : List UInt8) (off : Nat) (l : List UInt8) (h : off + l.length ≤ P.length) (k : Nat) : (splice P off l)[k]? = if off ≤ k ∧ k < off + l.length then l[k - off]? else P[k]? := by
  unfold splice
  have ht : (P.take off).length = off := by rw [List.length_take]; omega
  rw [List.getElem?_append, ht]
  by_cases h1 : k < off
  · rw [if_pos h1, List.getElem?_take_of_lt h1, if_neg (by omega)]
  · rw [if_neg h1, List.getElem?_append]
    by_cases h2 : k - off < l.length
    · rw [if_pos h2, if_pos (by omega)]
    · rw [if_neg h2, if_neg (by omega), List.getElem?_drop]
      congr 1
      omega
theorem pageOf_get (P : List UInt8) (i k : Nat) (h : k < 256) : (pageOf P i)[k]? = P[i * 256 + k]? := by
  unfold pageOf
  rw [List.getElem?_take_of_lt h, List.getElem?_drop]
theorem pageOf_splice (P : List UInt8) (n i j : Nat) (l : List UInt8) (hP : P.length = n * 256) (hi : i < n) (hj : j < n) (hl : l.length ≤ 256) :
    pageOf (splice P (i * 256) l) j = if j = i then l ++ (pageOf P i).drop l.length else pageOf P j := by
  have hf : i * 256 + l.length ≤ P.length := by
    have : (i + 1) * 256 ≤ n * 256 := Nat.mul_le_mul_right _ hi
    omega
  have hs : (splice P (i * 256) l).length = n * 256 := by rw [length_splice _ _ _ hf, hP]
  apply List.ext_getElem?
  intro k
  by_cases hk : k < 256
  · rw [pageOf_get _ _ _ hk, splice_get _ _ _ hf]
    by_cases e : j = i
    · subst e
      rw [if_pos rfl, List.getElem?_append]
      by_cases h2 : k < l.length
      · rw [if_pos (by omega), if_pos h2]; congr 1; omega
      · rw [if_neg (by omega), if_neg h2, List.getElem?_drop, pageOf_get _ _ _ (by omega)]; congr 1; omega
    · rw [if_neg e, if_neg (by omega), pageOf_get _ _ _ hk]
  · have h1 : (pageOf (splice P (i * 256) l) j).length = 256 := pageOf_length _ n _ hs hj
    rw [List.getElem?_eq_none (by omega)]
    split
    · have h2 : (pageOf P i).length = 256 := pageOf_length _ n _ hP hi
      rw [List.getElem?_eq_none (by rw [List.length_append, List.length_drop]; omega)]
    · have h2 : (pageOf P j).length = 256 := pageOf_length _ n _ hP hj
      rw [List.getElem?_eq_none (by omega)]
/-- A page is put back: what was written over it goes, but for its first bytes. -/
theorem splice_back (P : List UInt8) (n i t : Nat) (l : List UInt8) (hP : P.length = n * 256) (hi : i < n) (hl : l.length = 256) (ht : t ≤ 256) :
    splice (splice P (i * 256) l) (i * 256 + t) ((pageOf P i).drop t) = splice P (i * 256) (l.take t) := by
  have hb : (i + 1) * 256 ≤ n * 256 := Nat.mul_le_mul_right _ hi
  have hpl : (pageOf P i).length = 256 := pageOf_length _ n _ hP hi
  have hf : i * 256 + l.length ≤ P.length := by omega
  have hs : (splice P (i * 256) l).length = n * 256 := by rw [length_splice _ _ _ hf, hP]
  have hdl : ((pageOf P i).drop t).length = 256 - t := by rw [List.length_drop, hpl]
  have htl : (l.take t).length = t := by rw [List.length_take]; omega
  apply List.ext_getElem?
  intro k
  have f1 : i * 256 + t + ((pageOf P i).drop t).length ≤ (splice P (i * 256) l).length := by rw [hdl, hs]; clear hpl hdl htl hs hf; omega
  have f2 : i * 256 + (l.take t).length ≤ P.length := by rw [htl, hP]; clear hpl hdl htl hs hf f1; omega
  rw [splice_get _ _ _ f1, splice_get _ _ _ hf, splice_get _ _ _ f2, hdl, htl, hl]
  by_cases h1 : i * 256 + t ≤ k ∧ k < i * 256 + t + (256 - t)
  · rw [if_pos h1, if_neg (by omega), List.getElem?_drop, pageOf_get _ _ _ (by omega)]
    congr 1; omega
  · rw [if_neg h1]
    by_cases h2 : i * 256 ≤ k ∧ k < i * 256 + t
    · rw [if_pos h2, if_pos (by omega), List.getElem?_take_of_lt (by omega)]
    · have h3 : ¬ (i * 256 ≤ k ∧ k < i * 256 + 256) := by
        rintro ⟨g1, g2⟩
        by_cases g3 : k < i * 256 + t
        · exact h2 ⟨g1, g3⟩
        · refine h1 ⟨Nat.le_of_not_lt g3, ?_⟩
          have : i * 256 + t + (256 - t) = i * 256 + 256 := by rw [Nat.add_assoc, Nat.add_sub_cancel' ht]
          rw [this]
          exact g2
      rw [if_neg h2, if_neg h3]

/-- Writes upon pages: whole, or the first bytes of them, k in all. -/
def appAll (P : List UInt8) (log : List (Nat × List UInt8)) : List UInt8 := log.foldl (fun P x => splice P (x.1 * 256) x.2) P
def partAll (P : List UInt8) (k : Nat) (log : List (Nat × List UInt8)) : List UInt8 := (log.zipIdx).foldl (fun P x => splice P (x.1.1 * 256) (x.1.2.take (keptAt k x.2))) P
/-- What stood there when each came. -/
def hist (P : List UInt8) : List (Nat × List UInt8) → List (Nat × List UInt8)
  | [] => []
  | x :: log => (x.1, pageOf P x.1) :: hist (splice P (x.1 * 256) x.2) log

theorem appAll_snoc (P : List UInt8) (log : List (Nat × List UInt8)) (x : Nat × List UInt8) : appAll P (log ++ [x]) = splice (appAll P log) (x.1 * 256) x.2 := by simp [appAll]
theorem partAll_snoc (P : List UInt8) (k : Nat) (log : List (Nat × List UInt8)) (x : Nat × List UInt8) : partAll P k (log ++ [x]) = splice (partAll P k log) (x.1 * 256) (x.2.take (keptAt k log.length)) := by
  simp [partAll, List.zipIdx_append]
theorem hist_snoc (log : List (Nat × List UInt8)) (x : Nat × List UInt8) : ∀ P, hist P (log ++ [x]) = hist P log ++ [(x.1, pageOf (appAll P log) x.1)] := by
  induction log with
  | nil => intro P; rfl
  | cons y log ih => intro P; simp only [List.cons_append, hist]; rw [ih]; rfl
theorem hist_length (log : List (Nat × List UInt8)) : ∀ P, (hist P log).length = log.length := by
  induction log with
  | nil => intro P; rfl
  | cons y log ih => intro P; simp [hist, ih]

/-- Writes of whole pages that are there. -/
def LogOk (n : Nat) (log : List (Nat × List UInt8)) : Prop := ∀ x ∈ log, x.1 < n ∧ x.2.length = 256
theorem LogOk.init {n : Nat} {log : List (Nat × List UInt8)} {x : Nat × List UInt8} (h : LogOk n (log ++ [x])) : LogOk n log ∧ x.1 < n ∧ x.2.length = 256 :=
  ⟨fun y hy => h y (List.mem_append_left _ hy), h x (by simp)⟩
theorem appAll_length (n : Nat) (log : List (Nat × List UInt8)) : ∀ (P : List UInt8), P.length = n * 256 → LogOk n log → (appAll P log).length = n * 256 := by
  induction log with
  | nil => intro P h _; exact h
  | cons x log ih =>
    intro P h hl
    have hx := hl x (by simp)
    refine ih _ ?_ (fun y hy => hl y (List.mem_cons_of_mem _ hy))
    rw [length_splice _ _ _ (by rw [hx.2, h]; omega), h]
theorem keptAt_le (k j : Nat) : keptAt k j ≤ 256 := Nat.min_le_right _ _
theorem splice_nil (P : List UInt8) (off : Nat) : splice P off [] = P := by simp [splice]

theorem undo_congr (k : Nat) (W W' : List (Nat × List UInt8)) : ∀ (j : Nat), (∀ i, i < j → W.getD i (0, []) = W'.getD i (0, [])) → ∀ P, undo k W j P = undo k W' j P
  | 0, _, _ => rfl
  | j + 1, h, P => by
    simp only [undo]
    rw [h j (by omega)]
    exact undo_congr k W W' j (fun i hi => h i (by omega)) _
theorem undo_full (k : Nat) (W : List (Nat × List UInt8)) (hW : ∀ x ∈ W, x.2.length = 256) : ∀ (j : Nat), j ≤ W.length → (∀ i, i < j → keptAt k i = 256) → ∀ P, undo k W j P = P
  | 0, _, _, _ => rfl
  | j + 1, hj, h, P => by
    simp only [undo]
    have hx := hW _ (getD_mem W j (0, []) (by omega))
    rw [h j (by omega), List.drop_eq_nil_of_le (by omega), splice_nil]
    exact undo_full k W hW j (by omega) (fun i hi => h i (by omega)) P
theorem part_full (P : List UInt8) (k : Nat) (log : List (Nat × List UInt8)) (n : Nat) (hl : LogOk n log) (h : ∀ i, i < log.length → keptAt k i = 256) : partAll P k log = appAll P log := by
  have : ∀ (log : List (Nat × List UInt8)) (s : Nat) (P : List UInt8), LogOk n log → (∀ i, i < log.length → keptAt k (s + i) = 256) →
      (log.zipIdx s).foldl (fun P x => splice P (x.1.1 * 256) (x.1.2.take (keptAt k x.2))) P = log.foldl (fun P x => splice P (x.1 * 256) x.2) P := by
    intro log
    induction log with
    | nil => intro s P _ _; rfl
    | cons x log ih =>
      intro s P hl h
      have h0 := h 0 (by simp)
      have hx := hl x (by simp)
      simp only [List.zipIdx_cons, List.foldl_cons]
      rw [Nat.add_zero] at h0
      rw [h0, List.take_of_length_le (by omega)]
      exact ih (s + 1) _ (fun y hy => hl y (List.mem_cons_of_mem _ hy)) (fun i hi => by have := h (i + 1) (by simpa using hi); rwa [Nat.add_assoc, Nat.add_comm 1 i])
  exact this log 0 P hl (fun i hi => by rw [Nat.zero_add]; exact h i hi)

theorem hist_ok (n : Nat) (log : List (Nat × List UInt8)) : ∀ P, P.length = n * 256 → LogOk n log → ∀ x ∈ hist P log, x.1 < n ∧ x.2.length = 256 := by
  induction log with
  | nil => intro P _ _ x hx; cases hx
  | cons y log ih =>
    intro P hP hl x hx
    have hy := hl y (by simp)
    rcases List.mem_cons.1 hx with rfl | hx
    · exact ⟨hy.1, pageOf_length _ n _ hP hy.1⟩
    · refine ih _ ?_ (fun z hz => hl z (List.mem_cons_of_mem _ hz)) x hx
      rw [length_splice _ _ _ (by rw [hy.2, hP]; omega), hP]

/-- What takeBack leaves of the pages is what the document says: the first k bytes of what waits are kept. -/
theorem undo_hist (k n : Nat) (safe : List UInt8) (hs : safe.length = n * 256) : ∀ (r : List (Nat × List UInt8)), LogOk n r.reverse → undo k (hist safe r.reverse) r.reverse.length (appAll safe r.reverse) = partAll safe k r.reverse
  | [], _ => rfl
  | x :: r, hl => by
    rw [List.reverse_cons] at hl ⊢
    obtain ⟨hl', hx1, hx2⟩ := hl.init
    have ih := undo_hist k n safe hs r hl'
    generalize r.reverse = log at *
    have hPl := appAll_length n log safe hs hl'
    rw [hist_snoc, appAll_snoc, partAll_snoc, List.length_append, List.length_singleton]
    simp only [undo]
    have hg : (hist safe log ++ [(x.1, pageOf (appAll safe log) x.1)]).getD log.length (0, []) = (x.1, pageOf (appAll safe log) x.1) := by
      rw [List.getD_eq_getElem?_getD, List.getElem?_append_right (by rw [hist_length]; omega), hist_length]
      simp
    rw [hg]
    simp only
    rw [splice_back _ n _ _ _ hPl hx1 hx2 (keptAt_le _ _)]
    have hc : ∀ P, undo k (hist safe log ++ [(x.1, pageOf (appAll safe log) x.1)]) log.length P = undo k (hist safe log) log.length P := fun P => undo_congr k _ _ _ (fun i hi => by
      rw [List.getD_eq_getElem?_getD, List.getD_eq_getElem?_getD, List.getElem?_append_left (by rw [hist_length]; exact hi)]) P
    rw [hc]
    by_cases h0 : keptAt k log.length = 0
    · rw [h0, List.take_zero, splice_nil, splice_nil]
      exact ih
    · have hall : ∀ i, i < log.length → keptAt k i = 256 := fun i hi => by
        unfold keptAt at h0 ⊢
        omega
      rw [undo_full k _ (fun y hy => (hist_ok n log safe hs hl' y hy).2) _ (by rw [hist_length]; omega) hall, part_full safe k log n hl' hall]
end Go.Proofs.Ythgkkmcpmhfehaa
