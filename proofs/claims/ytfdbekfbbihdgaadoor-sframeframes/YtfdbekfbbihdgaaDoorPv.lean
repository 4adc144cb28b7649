
/- What is answered of bytes is answered of them with any others behind. No memory in this text. -/
import Derived.Test.YtfdbekfbbihdgaaDoorPu
namespace Go.Proofs.YtfdbekfbbihdgaaDoor
open Go.Lib
set_option linter.unusedSimpArgs false

theorem getD_app {r : Bs} {n : Nat} (t : Bs) (h : n < r.length) : (r ++ t).getD n 0 = r.getD n 0 := by
  simp [List.getD_eq_getElem?_getD, List.getElem?_append_left h]
theorem upTo_err {n : Nat} {r : Bs} {e : Int} (h : upTo n r = .error e) : e = 40 ∨ e = 41 := by
  unfold upTo at h
  split at h
  · injection h with h; exact .inr h.symm
  · split at h
    · cases h
    · injection h with h; exact .inl h.symm
theorem upTo_ok {n : Nat} {r b r' : Bs} (h : upTo n r = .ok (b, r')) : n < r.length ∧ b = r.take n ∧ r' = r.drop (n + 1) ∧ r.getD n 0 = 0 := by
  unfold upTo at h
  split at h
  · cases h
  · split at h
    · rename_i h1 h2
      injection h with h
      injection h with h3 h4
      exact ⟨by omega, h3.symm, h4.symm, h2⟩
    · cases h
theorem upTo_more {n : Nat} {r : Bs} (t : Bs) : (∀ b r', upTo n r = .ok (b, r') → upTo n (r ++ t) = .ok (b, r' ++ t)) ∧ (upTo n r = .error 40 → upTo n (r ++ t) = .error 40) := by
  unfold upTo
  by_cases h1 : r.length ≤ n
  · rw [if_pos h1]
    exact ⟨fun _ _ h => (by cases h), fun h => by injection h with h; exact absurd h (by decide)⟩
  · have h3 : ¬ (r ++ t).length ≤ n := by rw [List.length_append]; omega
    rw [if_neg h1, if_neg h3, getD_app t (by omega)]
    by_cases h2 : r.getD n 0 = 0
    · rw [if_pos h2, if_pos h2]
      refine ⟨fun b r' h => ?_, fun h => (by cases h)⟩
      injection h with h
      injection h with h3 h4
      rw [List.take_append_of_le_length (by omega), List.drop_append_of_le_length (by omega), h3, h4]
    · rw [if_neg h2, if_neg h2]
      exact ⟨fun _ _ h => (by cases h), fun h => h⟩
theorem bodyL_err {H : List Hd} {r : Bs} {e : Int} (h : bodyL H r = .error e) : e = 40 ∨ e = 41 := by
  unfold bodyL at h
  split at h
  · split at h
    · exact upTo_err h
    · injection h with h; exact .inl h.symm
  · split at h
    · exact upTo_err h
    · split at h
      · injection h with h; exact .inr h.symm
      · injection h with h; exact .inl h.symm
theorem bodyL_len {H : List Hd} {r b r' : Bs} (h : bodyL H r = .ok (b, r')) : r'.length < r.length := by
  unfold bodyL at h
  have key : ∀ n, upTo n r = .ok (b, r') → r'.length < r.length := fun n h => by
    obtain ⟨h1, _, h3, _⟩ := upTo_ok h
    rw [h3, List.length_drop]; omega
  split at h
  · split at h
    · exact key _ h
    · cases h
  · split at h
    · exact key _ h
    · split at h <;> cases h
theorem bodyL_more {H : List Hd} {r : Bs} (t : Bs) : (∀ b r', bodyL H r = .ok (b, r') → bodyL H (r ++ t) = .ok (b, r' ++ t)) ∧ (bodyL H r = .error 40 → bodyL H (r ++ t) = .error 40) := by
  unfold bodyL
  cases getL CL H with
  | some x =>
    simp only []
    cases lenL x with
    | some n => exact upTo_more t
    | none => exact ⟨fun _ _ h => (by cases h), fun h => h⟩
  | none =>
    simp only []
    cases hc : cutN 0 (r.take 1025) with
    | some p =>
      have e : cutN 0 ((r ++ t).take 1025) = some (p.1, p.2 ++ t.take (1025 - r.length)) := by
        rw [List.take_append]
        exact cutN_more (a := p.1) (r := p.2) (by rw [hc]) _
      rw [e]
      exact upTo_more t
    | none =>
      simp only []
      by_cases h1 : r.length ≤ 1024
      · rw [if_pos h1]
        exact ⟨fun _ _ h => (by cases h), fun h => by injection h with h; exact absurd h (by decide)⟩
      · rw [if_neg h1]
        refine ⟨fun _ _ h => (by cases h), fun _ => ?_⟩
        rw [List.take_append_of_le_length (by omega), hc]
        simp only []
        rw [if_neg (by rw [List.length_append]; omega)]
theorem readL_err {s : Bs} {e : Int} (h : readL s = .error e) : e = 40 ∨ e = 41 := by
  unfold readL at h
  split at h
  · injection h with h; exact .inr h.symm
  · injection h with h; exact .inl h.symm
  · split at h
    · split at h
      · injection h with h; exact .inl h.symm
      · split at h
        · rename_i h2
          injection h with h
          subst h
          exact bodyL_err h2
        · cases h
    · injection h with h; exact .inl h.symm
theorem readL_len {s : Bs} {f : Fr} {r : Bs} (h : readL s = .ok (f, r)) : r.length < s.length := by
  unfold readL at h
  split at h
  · cases h
  · cases h
  · rename_i hh
    have h1 := headA_left _ _ _ hh
    split at h
    · split at h
      · cases h
      · split at h
        · cases h
        · rename_i h2
          have h3 := bodyL_len h2
          injection h with h
          injection h with _ h
          subst h
          omega
    · cases h
theorem readL_more {s : Bs} (t : Bs) : (∀ f r, readL s = .ok (f, r) → readL (s ++ t) = .ok (f, r ++ t)) ∧ (readL s = .error 40 → readL (s ++ t) = .error 40) := by
  unfold readL
  cases hh : headA [] [] s with
  | none => exact ⟨fun _ _ h => (by cases h), fun h => by injection h with h; exact absurd h (by decide)⟩
  | some p =>
    obtain ⟨L, r⟩ := p
    rw [headA_more _ _ _ hh t]
    cases L with
    | nil => exact ⟨fun _ _ h => (by cases h), fun h => h⟩
    | cons c ls =>
      simp only []
      by_cases h1 : isCmd c = true ∧ ls.length ≤ 32
      · rw [if_pos h1, if_pos h1]
        cases hdrsL (bare c) ls with
        | none => exact ⟨fun _ _ h => (by cases h), fun h => h⟩
        | some H =>
          simp only []
          obtain ⟨b1, b2⟩ := bodyL_more (H := H) (r := r) t
          cases hb : bodyL H r with
          | error e =>
            refine ⟨fun _ _ h => (by cases h), fun h => ?_⟩
            injection h with h
            subst h
            rw [b2 hb]
          | ok p =>
            obtain ⟨b, r'⟩ := p
            rw [b1 b r' hb]
            refine ⟨fun f r h => ?_, fun h => (by cases h)⟩
            injection h with h
            injection h with h2 h3
            subst h2 h3
            rfl
      · rw [if_neg h1, if_neg h1]
        exact ⟨fun _ _ h => (by cases h), fun h => h⟩
theorem readL_short {s : Bs} (h : s = [] ∨ s = [13]) : readL s = .error 41 := by
  rcases h with rfl | rfl <;> rfl
/-- Behind the blanks. -/
abbrev rst (s : Bs) : Bs := s.drop (blanksN s)
theorem nextL_cases (s : Bs) : (∃ f r, readL ((rst s).take 16384) = .ok (f, r) ∧ nextL s = (f, blanksN s + (((rst s).take 16384).length - r.length), 0)) ∨
    (readL ((rst s).take 16384) = .error 41 ∧ (rst s).length < 16384 ∧ nextL s = (Fr.z, blanksN s, 41)) ∨
    ((∃ e, readL ((rst s).take 16384) = .error e ∧ (e = 40 ∨ 16384 ≤ (rst s).length)) ∧ nextL s = (Fr.z, 0, 40)) := by
  unfold nextL
  cases hr : readL ((s.drop (blanksN s)).take 16384) with
  | ok p => exact .inl ⟨p.1, p.2, rfl, rfl⟩
  | error e =>
    simp only []
    by_cases h : e = 41 ∧ (s.drop (blanksN s)).length < 16384
    · rw [if_pos h]
      exact .inr (.inl ⟨by rw [h.1], h.2, rfl⟩)
    · rw [if_neg h]
      refine .inr (.inr ⟨⟨e, rfl, ?_⟩, rfl⟩)
      rcases readL_err hr with h1 | h1
      · exact .inl h1
      · exact .inr (Nat.le_of_not_lt fun h3 => h ⟨h1, h3⟩)
theorem nextL_more {s : Bs} (h : (nextL s).2.2 = 41) : (nextL s).1 = Fr.z ∧ (nextL s).2.1 = blanksN s ∧ s.length < 16384 + blanksN s := by
  rcases nextL_cases s with ⟨f, r, _, h2⟩ | ⟨_, h2, h3⟩ | ⟨_, h2⟩
  · rw [h2] at h; exact absurd (show (0 : Int) = 41 from h) (by decide)
  · rw [h3]
    refine ⟨rfl, rfl, ?_⟩
    rw [List.length_drop] at h2
    omega
  · rw [h2] at h; exact absurd (show (40 : Int) = 41 from h) (by decide)
theorem take_app (s t : Bs) (n : Nat) : ∃ u, (s ++ t).take n = s.take n ++ u ∧ (n ≤ s.length → u = []) :=
  ⟨t.take (n - s.length), List.take_append, fun h => by rw [Nat.sub_eq_zero_of_le h]; rfl⟩
theorem nextL_once (s t : Bs) (h : (nextL s).2.2 ≠ 41) : nextL (s ++ t) = nextL s ∧ ((nextL s).2.2 = 0 ↔ 0 < (nextL s).2.1) ∧ (nextL s).2.1 ≤ s.length := by
  have hne : rst s ≠ [] ∧ rst s ≠ [13] := by
    constructor
    all_goals
      intro e
      have e1 : readL ((rst s).take 16384) = .error 41 := by rw [e]; rfl
      have e2 : (rst s).length < 16384 := by rw [e]; decide
      rcases nextL_cases s with ⟨f, r, h1, _⟩ | ⟨_, _, h3⟩ | ⟨⟨e', h1, h2⟩, _⟩
      · rw [e1] at h1; cases h1
      · rw [h3] at h; exact h rfl
      · rw [e1] at h1; injection h1 with h1; omega
  have hb := blanksN_app s t hne.1 hne.2
  have hle := blanksN_le s
  have hd : rst (s ++ t) = rst s ++ t := by
    unfold rst
    rw [hb, List.drop_append_of_le_length hle]
  obtain ⟨u, hu, hu2⟩ := take_app (rst s) t 16384
  obtain ⟨m1, m2⟩ := readL_more (s := (rst s).take 16384) u
  rcases nextL_cases s with ⟨f, r, h1, h2⟩ | ⟨_, _, h3⟩ | ⟨⟨e, h1, h2⟩, h3⟩
  · have h4 := readL_len h1
    have h5 : ((rst s).take 16384).length ≤ s.length - blanksN s := by rw [List.length_take, List.length_drop]; omega
    rw [h2]
    refine ⟨?_, ⟨fun _ => by show 0 < _ + _; omega, fun _ => rfl⟩, by show _ + _ ≤ _; omega⟩
    have h6 := m1 _ _ h1
    rw [← hu, ← hd] at h6
    rcases nextL_cases (s ++ t) with ⟨f', r', h7, h8⟩ | ⟨h7, _, _⟩ | ⟨⟨e', h7, _⟩, _⟩
    · rw [h6] at h7
      injection h7 with h7
      injection h7 with h9 h10
      subst h9 h10
      rw [h8, hb, hd, hu]
      simp only [List.length_append]
      rw [Nat.add_sub_add_right]
    · rw [h6] at h7; cases h7
    · rw [h6] at h7; cases h7
  · rw [h3] at h; exact absurd rfl h
  · rw [h3]
    refine ⟨?_, ⟨fun h => absurd h (by decide), fun h => absurd h (by decide)⟩, Nat.zero_le _⟩
    have h6 : readL ((rst (s ++ t)).take 16384) = .error e ∧ (e = 40 ∨ 16384 ≤ (rst (s ++ t)).length) := by
      rw [hd, hu]
      rcases h2 with rfl | h2
      · exact ⟨m2 h1, .inl rfl⟩
      · rw [hu2 h2, List.append_nil]
        exact ⟨h1, .inr (by rw [List.length_append]; omega)⟩
    rcases nextL_cases (s ++ t) with ⟨f', r', h7, h8⟩ | ⟨h7, h8, _⟩ | ⟨_, h7⟩
    · rw [h6.1] at h7; cases h7
    · rw [h6.1] at h7
      injection h7 with h7
      omega
    · exact h7
end Go.Proofs.YtfdbekfbbihdgaaDoor
