/- The pairs that a law adds, one by one: what is there then, and what is found. Facts of lists, with those conditions that each row states. -/
import Derived.Test.YtcicnbbnkeellaaGreatDoorAd
import Derived.Test.YtcicnbbnkeellaaGreatDoorTn
namespace Go.Proofs.YtcicnbbnkeellaaGreatDoor

def adds (ps : List (List UInt8)) (f : Nat → Int) : Nat → List Pr
  | 0 => []
  | k + 1 => addR (adds ps f k) (ps.getD k []) (f k)
theorem addP_len (l : List Pr) (x : Pr) : (addP l x).length = l.length + 1 := by
  have h := take_while (fun y => plt y x) l
  unfold addP
  rw [← h.1, ← h.2]
  have h3 : l.length = (l.take (l.takeWhile (fun y => plt y x)).length).length + (l.drop (l.takeWhile (fun y => plt y x)).length).length := by
    rw [← List.length_append, List.take_append_drop]
  rw [List.length_append, List.length_cons]
  omega
theorem addR_len (l : List Pr) (p : List UInt8) (z : Int) : (addR l p z).length ≤ l.length + 1 := by
  unfold addR
  split
  · rw [addP_len]; exact Nat.le_refl _
  · omega
theorem adds_len (ps : List (List UInt8)) (f : Nat → Int) (k : Nat) : (adds ps f k).length ≤ k := by
  induction k with
  | zero => exact Nat.le_refl _
  | succ k ih => exact Nat.le_trans (addR_len _ _ _) (by omega)
/-- What is there after an Add for which there is room. -/
theorem addR_mem (l : List Pr) (p : List UInt8) (z : Int) (hl : l.length < 64) (x : Pr) : x ∈ addR l p z ↔ x ∈ l ∨ (x = (p, z) ∧ pat p = true) := by
  unfold addR
  cases hp : pat p with
  | false =>
    have : addC l p z = 30 := by unfold addC; rw [if_pos hp]
    rw [if_neg (by rw [this]; decide)]
    simp
  | true =>
    by_cases hm : (p, z) ∈ l
    · have : addC l p z = 32 := by unfold addC; rw [if_neg (by rw [hp]; simp), if_pos hm]
      rw [if_neg (by rw [this]; decide)]
      constructor
      · exact fun h => .inl h
      · rintro (h | ⟨rfl, _⟩)
        · exact h
        · exact hm
    · have : addC l p z = 0 := by unfold addC; rw [if_neg (by rw [hp]; simp), if_neg hm, if_neg (by omega)]
      rw [if_pos this, add_mem]
      simp only [and_true]
      exact Or.comm
theorem adds_mem (ps : List (List UInt8)) (f : Nat → Int) (k : Nat) (hk : k ≤ 64) (x : Pr) : x ∈ adds ps f k ↔ ∃ i, i < k ∧ x = (ps.getD i [], f i) ∧ pat (ps.getD i []) = true := by
  induction k with
  | zero => simp [adds]
  | succ k ih =>
    have := adds_len ps f k
    rw [adds, addR_mem _ _ _ (by omega), ih (by omega)]
    constructor
    · rintro (⟨i, h1, h2⟩ | h)
      · exact ⟨i, by omega, h2⟩
      · exact ⟨k, by omega, h⟩
    · rintro ⟨i, h1, h2⟩
      by_cases e : i = k
      · subst e; exact .inr h2
      · exact .inl ⟨i, by omega, h2⟩
def idx (i : Nat) : Int := (i : Int)
def want (ps : List (List UInt8)) (s : List UInt8) (k : Nat) : List Int := ((List.range k).filter (fun i => mat (ps.getD i []) s)).map idx
theorem want_succ (ps : List (List UInt8)) (s : List UInt8) (k : Nat) : want ps s (k + 1) = if mat (ps.getD k []) s = true then want ps s k ++ [(k : Int)] else want ps s k := by
  unfold want
  rw [List.range_succ, List.filter_append, List.map_append]
  split
  · rename_i h
    simp only [List.filter, h]
    rfl
  · rename_i h
    have h : mat (ps.getD k []) s = false := by simpa using h
    simp only [List.filter, h]
    simp
theorem want_len (ps : List (List UInt8)) (s : List UInt8) (k : Nat) : (want ps s k).length ≤ k := by
  unfold want
  rw [List.length_map]
  exact Nat.le_trans (List.length_filter_le _ _) (by rw [List.length_range]; exact Nat.le_refl _)
theorem want_mem (ps : List (List UInt8)) (s : List UInt8) (k : Nat) (z : Int) : z ∈ want ps s k ↔ ∃ i, i < k ∧ mat (ps.getD i []) s = true ∧ idx i = z := by
  unfold want
  simp only [List.mem_map, List.mem_filter, List.mem_range]
  constructor
  · rintro ⟨i, ⟨h1, h2⟩, h3⟩; exact ⟨i, h1, h2, h3⟩
  · rintro ⟨i, h1, h2, h3⟩; exact ⟨i, ⟨h1, h2⟩, h3⟩
theorem want_rising (ps : List (List UInt8)) (s : List UInt8) (k : Nat) : RisI (want ps s k) := by
  induction k with
  | zero => exact List.Pairwise.nil
  | succ k ih =>
    rw [want_succ]
    split
    · unfold RisI
      rw [List.pairwise_append]
      refine ⟨ih, List.pairwise_singleton _ _, fun a ha b hb => ?_⟩
      obtain ⟨i, h1, _, rfl⟩ := (want_mem ps s k a).1 ha
      simp only [List.mem_singleton] at hb
      subst hb
      unfold idx
      omega
    · exact ih
theorem mat_pat {p s : List UInt8} (h : mat p s = true) : pat p = true := by
  unfold mat covers at h
  cases hp : pat p with
  | true => rfl
  | false => rw [hp] at h; simp at h
theorem find_want (ps : List (List UInt8)) (s : List UInt8) (k : Nat) (hk : k ≤ 64) : findP (adds ps idx k) s = want ps s k := by
  refine risI_ext _ _ (find_rising _ _) (want_rising _ _ _) (fun z => ?_)
  rw [find_mem, want_mem]
  constructor
  · rintro ⟨p, h1, h2, h3⟩
    obtain ⟨i, hi, rfl, _⟩ := (adds_mem ps idx k hk p).1 h1
    exact ⟨i, hi, h2, h3⟩
  · rintro ⟨i, hi, h2, h3⟩
    exact ⟨_, (adds_mem ps idx k hk _).2 ⟨i, hi, rfl, mat_pat h2⟩, h2, h3⟩
end Go.Proofs.YtcicnbbnkeellaaGreatDoor
