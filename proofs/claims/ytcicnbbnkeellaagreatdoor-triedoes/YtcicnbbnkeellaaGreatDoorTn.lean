/- Places in a list: how far a test holds, where one stands first: facts of lists, with those conditions that each row states. -/
import Derived.Test.YtcicnbbnkeellaaGreatDoorTm
namespace Go.Proofs.YtcicnbbnkeellaaGreatDoor

theorem take_while {α : Type} (p : α → Bool) (l : List α) : l.take (l.takeWhile p).length = l.takeWhile p ∧ l.drop (l.takeWhile p).length = l.dropWhile p := by
  induction l with
  | nil => exact ⟨rfl, rfl⟩
  | cons a l ih =>
    by_cases h : p a = true
    · rw [List.takeWhile_cons_of_pos h, List.dropWhile_cons_of_pos h, List.length_cons, List.take_succ_cons, List.drop_succ_cons, ih.1, ih.2]
      exact ⟨rfl, rfl⟩
    · rw [List.takeWhile_cons_of_neg h, List.dropWhile_cons_of_neg h]
      exact ⟨rfl, rfl⟩
/-- The place where a test fails first. -/
theorem while_at {α : Type} (p : α → Bool) (l : List α) (k : Nat) (hk : k ≤ l.length) (hb : ∀ j (hj : j < l.length), j < k → p l[j] = true) (hn : ∀ h : k < l.length, p l[k] = false) : (l.takeWhile p).length = k := by
  induction l generalizing k with
  | nil => simp at hk; subst hk; rfl
  | cons a l ih =>
    cases k with
    | zero =>
      have := hn (by simp)
      rw [List.takeWhile_cons_of_neg (by simpa using this)]
      rfl
    | succ k =>
      have h0 : p a = true := hb 0 (by simp) (by omega)
      rw [List.takeWhile_cons_of_pos h0, List.length_cons, ih k (by simpa using hk) (fun j hj hjk => hb (j + 1) (Nat.succ_lt_succ hj) (by omega)) (fun h => hn (Nat.succ_lt_succ h))]
theorem erase_at {α : Type} [BEq α] [LawfulBEq α] (l : List α) (x : α) (k : Nat) (hk : k < l.length) (he : l[k] = x) (hb : ∀ j (hj : j < l.length), j < k → l[j] ≠ x) : l.erase x = l.take k ++ l.drop (k + 1) := by
  induction l generalizing k with
  | nil => simp at hk
  | cons a l ih =>
    cases k with
    | zero =>
      have : a = x := he
      subst this
      simp
    | succ k =>
      have h0 : a ≠ x := hb 0 (by simp) (by omega)
      rw [List.erase_cons_tail (by simpa using h0), ih k (by simpa using hk) he (fun j hj hjk => hb (j + 1) (Nat.succ_lt_succ hj) (by omega))]
      rfl
theorem not_mem_all {α : Type} (l : List α) (x : α) (hb : ∀ j (hj : j < l.length), l[j] ≠ x) : x ∉ l := fun h => by
  obtain ⟨j, hj, e⟩ := List.mem_iff_getElem.1 h
  exact hb j hj e
/-- Where a pair comes in. -/
theorem add_at (l : List Pr) (x : Pr) (k : Nat) (hk : k ≤ l.length) (hb : ∀ j (hj : j < l.length), j < k → plt l[j] x = true) (hn : ∀ h : k < l.length, plt l[k] x = false) : addP l x = l.take k ++ x :: l.drop k := by
  have h1 := while_at (fun y => plt y x) l k hk hb hn
  have h2 := take_while (fun y => plt y x) l
  rw [h1] at h2
  unfold addP
  rw [h2.1, h2.2]
/-- Where a number comes in. -/
theorem ins_at (l : List Int) (z : Int) (k : Nat) (hk : k ≤ l.length) (hb : ∀ j (hj : j < l.length), j < k → l[j] < z) (hn : ∀ h : k < l.length, ¬ l[k] < z) : insI l z = if l[k]? = some z then l else l.take k ++ z :: l.drop k := by
  have h1 := while_at (fun y => decide (y < z)) l k hk (fun j hj hjk => by simpa using hb j hj hjk) (fun h => by simpa using hn h)
  have h2 := take_while (fun y => decide (y < z)) l
  rw [h1] at h2
  unfold insI
  rw [← h2.1, ← h2.2, List.head?_drop]
  split
  · exact List.take_append_drop k l
  · rfl
end Go.Proofs.YtcicnbbnkeellaaGreatDoor
