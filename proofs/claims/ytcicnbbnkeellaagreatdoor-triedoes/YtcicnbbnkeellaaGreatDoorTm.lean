/- Pairs of a pattern and a number in their order; which numbers a topic finds: facts of lists, with those conditions that each row states. -/
import Derived.Test.YtcicnbbnkeellaaGreatDoorMb
import Derived.WalkKit
namespace Go.Proofs.YtcicnbbnkeellaaGreatDoor

theorem bl_irrefl : ∀ x : List UInt8, Op.bytesLess x x = false
  | [] => rfl
  | a :: x => by simp [Op.bytesLess, bl_irrefl x]
theorem bl_tri : ∀ x y : List UInt8, Op.bytesLess x y = false → Op.bytesLess y x = false → x = y
  | [], [], _, _ => rfl
  | [], _ :: _, h, _ => by simp [Op.bytesLess] at h
  | _ :: _, [], _, h => by simp [Op.bytesLess] at h
  | a :: x, b :: y, h, h' => by
    simp only [Op.bytesLess] at h h'
    by_cases hab : a < b
    · simp [hab] at h
    · by_cases hba : b < a
      · simp [hba] at h'
      · have e : a = b := by
          apply UInt8.toNat_inj.1
          have h1 : ¬ a.toNat < b.toNat := hab
          have h2 : ¬ b.toNat < a.toNat := hba
          omega
        subst e
        simp at h h'
        rw [bl_tri x y h h']
theorem bl_trans : ∀ x y z : List UInt8, Op.bytesLess x y = true → Op.bytesLess y z = true → Op.bytesLess x z = true
  | [], [], _, h, _ => by simp [Op.bytesLess] at h
  | [], _ :: _, [], _, h => by simp [Op.bytesLess] at h
  | [], _ :: _, _ :: _, _, _ => by simp [Op.bytesLess]
  | _ :: _, [], _, h, _ => by simp [Op.bytesLess] at h
  | _ :: _, _ :: _, [], _, h => by simp [Op.bytesLess] at h
  | a :: x, b :: y, c :: z, h, h' => by
    simp only [Op.bytesLess, Bool.or_eq_true, Bool.and_eq_true, decide_eq_true_eq, beq_iff_eq] at h h' ⊢
    rcases h with h | ⟨rfl, h⟩
    · rcases h' with h' | ⟨rfl, h'⟩
      · left
        have h1 : a.toNat < b.toNat := h
        have h2 : b.toNat < c.toNat := h'
        show a.toNat < c.toNat
        omega
      · exact .inl h
    · rcases h' with h' | ⟨rfl, h'⟩
      · exact .inl h'
      · exact .inr ⟨rfl, bl_trans x y z h h'⟩

/-- A pattern and a number. -/
abbrev Pr := List UInt8 × Int
def plt (a b : Pr) : Bool := Op.bytesLess a.1 b.1 || (a.1 == b.1 && decide (a.2 < b.2))
theorem plt_irrefl (a : Pr) : plt a a = false := by unfold plt; rw [bl_irrefl]; simp
theorem plt_tri (a b : Pr) (h1 : plt a b = false) (h2 : plt b a = false) : a = b := by
  unfold plt at h1 h2
  rw [Bool.or_eq_false_iff] at h1 h2
  have e := bl_tri a.1 b.1 h1.1 h2.1
  have h3 := h1.2
  have h4 := h2.2
  rw [e] at h3 h4
  simp at h3 h4
  refine Prod.ext e ?_
  omega
theorem plt_trans (a b c : Pr) (h1 : plt a b = true) (h2 : plt b c = true) : plt a c = true := by
  unfold plt at *
  simp only [Bool.or_eq_true, Bool.and_eq_true, beq_iff_eq, decide_eq_true_eq] at *
  rcases h1 with h1 | ⟨e1, h1⟩
  · rcases h2 with h2 | ⟨e2, h2⟩
    · exact .inl (bl_trans _ _ _ h1 h2)
    · rw [← e2]; exact .inl h1
  · rcases h2 with h2 | ⟨e2, h2⟩
    · rw [e1]; exact .inl h2
    · exact .inr ⟨e1.trans e2, by omega⟩
theorem plt_asymm (a b : Pr) (h : plt a b = true) : plt b a = false := by
  cases e : plt b a with
  | false => rfl
  | true => have := plt_trans _ _ _ h e; rw [plt_irrefl] at this; cases this

def Rising (l : List Pr) : Prop := l.Pairwise (fun a b => plt a b = true)
def addP (l : List Pr) (x : Pr) : List Pr := l.takeWhile (fun y => plt y x) ++ x :: l.dropWhile (fun y => plt y x)
theorem add_mem (l : List Pr) (x y : Pr) : y ∈ addP l x ↔ y = x ∨ y ∈ l := by
  unfold addP
  rw [List.mem_append, List.mem_cons]
  conv => rhs; rw [← List.takeWhile_append_dropWhile (p := fun y => plt y x) (l := l), List.mem_append]
  constructor
  · rintro (h | h | h)
    · exact .inr (.inl h)
    · exact .inl h
    · exact .inr (.inr h)
  · rintro (h | h | h)
    · exact .inr (.inl h)
    · exact .inl h
    · exact .inr (.inr h)
theorem add_rising (l : List Pr) (x : Pr) (h : Rising l) (hx : x ∉ l) : Rising (addP l x) := by
  induction l with
  | nil => exact List.pairwise_singleton _ _
  | cons a l ih =>
    have ha := (List.pairwise_cons.1 h).1
    have hl := (List.pairwise_cons.1 h).2
    unfold addP
    by_cases hp : plt a x = true
    · rw [List.takeWhile_cons_of_pos (p := fun y => plt y x) hp, List.dropWhile_cons_of_pos (p := fun y => plt y x) hp, List.cons_append]
      refine List.pairwise_cons.2 ⟨fun y hy => ?_, ih hl (fun hm => hx (by simp [hm]))⟩
      rcases (add_mem l x y).1 hy with rfl | hy
      · exact hp
      · exact ha y hy
    · rw [List.takeWhile_cons_of_neg (p := fun y => plt y x) hp, List.dropWhile_cons_of_neg (p := fun y => plt y x) hp, List.nil_append]
      have hxa : plt x a = true := by
        cases e : plt x a with
        | true => rfl
        | false => exact absurd (plt_tri a x (by simpa using hp) e) (fun e => hx (by simp [e]))
      refine List.pairwise_cons.2 ⟨fun y hy => ?_, h⟩
      rcases List.mem_cons.1 hy with rfl | hy
      · exact hxa
      · exact plt_trans _ _ _ hxa (ha y hy)
theorem rising_ext (l m : List Pr) (hl : Rising l) (hm : Rising m) (h : ∀ y, y ∈ l ↔ y ∈ m) : l = m := by
  induction l generalizing m with
  | nil =>
    cases m with
    | nil => rfl
    | cons b m => exact absurd ((h b).2 (by simp)) (by simp)
  | cons a l ih =>
    cases m with
    | nil => exact absurd ((h a).1 (by simp)) (by simp)
    | cons b m =>
      have ha := (List.pairwise_cons.1 hl).1
      have hb := (List.pairwise_cons.1 hm).1
      have e : a = b := by
        rcases List.mem_cons.1 ((h a).1 (by simp)) with e | h1
        · exact e
        · rcases List.mem_cons.1 ((h b).2 (by simp)) with e | h2
          · exact e.symm
          · have := plt_asymm _ _ (ha b h2)
            rw [hb a h1] at this
            cases this
      subst e
      congr 1
      refine ih m (List.pairwise_cons.1 hl).2 (List.pairwise_cons.1 hm).2 (fun y => ?_)
      have hna : ∀ y ∈ l, y ≠ a := fun y hy e => by have := ha y hy; rw [e, plt_irrefl] at this; cases this
      have hnb : ∀ y ∈ m, y ≠ a := fun y hy e => by have := hb y hy; rw [e, plt_irrefl] at this; cases this
      constructor
      · intro hy
        rcases List.mem_cons.1 ((h y).1 (by simp [hy])) with e | h1
        · exact absurd e (hna y hy)
        · exact h1
      · intro hy
        rcases List.mem_cons.1 ((h y).2 (by simp [hy])) with e | h1
        · exact absurd e (hnb y hy)
        · exact h1
theorem rising_nodup (l : List Pr) (h : Rising l) : l.Nodup := h.imp (fun hab e => by rw [e, plt_irrefl] at hab; cases hab)
theorem drop_mem (l : List Pr) (x y : Pr) (h : Rising l) : y ∈ l.erase x ↔ y ≠ x ∧ y ∈ l := (rising_nodup l h).mem_erase_iff
theorem drop_rising (l : List Pr) (x : Pr) (h : Rising l) : Rising (l.erase x) := h.sublist List.erase_sublist

def RisI (l : List Int) : Prop := l.Pairwise (fun a b => a < b)
def insI (l : List Int) (z : Int) : List Int :=
  l.takeWhile (fun y => decide (y < z)) ++ (if (l.dropWhile (fun y => decide (y < z))).head? = some z then l.dropWhile (fun y => decide (y < z)) else z :: l.dropWhile (fun y => decide (y < z)))
theorem insI_mem (l : List Int) (z y : Int) : y ∈ insI l z ↔ y = z ∨ y ∈ l := by
  unfold insI
  rw [List.mem_append]
  conv => rhs; rw [← List.takeWhile_append_dropWhile (p := fun y => decide (y < z)) (l := l), List.mem_append]
  split
  · rename_i hh
    have hz : z ∈ l.dropWhile (fun y => decide (y < z)) := List.mem_of_mem_head? hh
    constructor
    · rintro (h | h)
      · exact .inr (.inl h)
      · exact .inr (.inr h)
    · rintro (rfl | h | h)
      · exact .inr hz
      · exact .inl h
      · exact .inr h
  · rw [List.mem_cons]
    constructor
    · rintro (h | h | h)
      · exact .inr (.inl h)
      · exact .inl h
      · exact .inr (.inr h)
    · rintro (h | h | h)
      · exact .inr (.inl h)
      · exact .inl h
      · exact .inr (.inr h)
theorem insI_rising (l : List Int) (z : Int) (h : RisI l) : RisI (insI l z) := by
  induction l with
  | nil => exact List.pairwise_singleton _ _
  | cons a l ih =>
    have ha := (List.pairwise_cons.1 h).1
    have hl := (List.pairwise_cons.1 h).2
    unfold insI
    by_cases hp : a < z
    · have hp' : (fun y => decide (y < z)) a = true := by simpa using hp
      rw [List.takeWhile_cons_of_pos (p := fun y => decide (y < z)) hp', List.dropWhile_cons_of_pos (p := fun y => decide (y < z)) hp', List.cons_append]
      refine List.pairwise_cons.2 ⟨fun y hy => ?_, ih hl⟩
      rcases (insI_mem l z y).1 hy with rfl | hy
      · exact hp
      · exact ha y hy
    · have hp' : ¬ (fun y => decide (y < z)) a = true := by simpa using hp
      rw [List.takeWhile_cons_of_neg (p := fun y => decide (y < z)) hp', List.dropWhile_cons_of_neg (p := fun y => decide (y < z)) hp', List.nil_append]
      split
      · exact h
      · rename_i hh
        have hne : a ≠ z := by simpa using hh
        refine List.pairwise_cons.2 ⟨fun y hy => ?_, h⟩
        rcases List.mem_cons.1 hy with rfl | hy
        · omega
        · have := ha y hy; omega
theorem risI_ext (l m : List Int) (hl : RisI l) (hm : RisI m) (h : ∀ y, y ∈ l ↔ y ∈ m) : l = m := by
  induction l generalizing m with
  | nil =>
    cases m with
    | nil => rfl
    | cons b m => exact absurd ((h b).2 (by simp)) (by simp)
  | cons a l ih =>
    cases m with
    | nil => exact absurd ((h a).1 (by simp)) (by simp)
    | cons b m =>
      have ha := (List.pairwise_cons.1 hl).1
      have hb := (List.pairwise_cons.1 hm).1
      have e : a = b := by
        rcases List.mem_cons.1 ((h a).1 (by simp)) with e | h1
        · exact e
        · rcases List.mem_cons.1 ((h b).2 (by simp)) with e | h2
          · exact e.symm
          · have := ha b h2; have := hb a h1; omega
      subst e
      congr 1
      refine ih m (List.pairwise_cons.1 hl).2 (List.pairwise_cons.1 hm).2 (fun y => ?_)
      constructor
      · intro hy
        rcases List.mem_cons.1 ((h y).1 (by simp [hy])) with e | h1
        · have := ha y hy; omega
        · exact h1
      · intro hy
        rcases List.mem_cons.1 ((h y).2 (by simp [hy])) with e | h1
        · have := hb y hy; omega
        · exact h1

/-- The numbers that a topic finds. -/
def findStep (n : List UInt8) (out : List Int) (p : Pr) : List Int := if mat p.1 n then insI out p.2 else out
def findP (l : List Pr) (n : List UInt8) : List Int := l.foldl (findStep n) []
theorem fold_rising (l : List Pr) (n : List UInt8) (out : List Int) (h : RisI out) : RisI (l.foldl (findStep n) out) := by
  induction l generalizing out with
  | nil => exact h
  | cons a l ih =>
    refine ih _ ?_
    unfold findStep
    split
    · exact insI_rising _ _ h
    · exact h
theorem fold_mem (l : List Pr) (n : List UInt8) (out : List Int) (z : Int) : z ∈ l.foldl (findStep n) out ↔ z ∈ out ∨ ∃ p ∈ l, mat p.1 n = true ∧ p.2 = z := by
  induction l generalizing out with
  | nil => simp
  | cons a l ih =>
    rw [List.foldl_cons, ih]
    unfold findStep
    constructor
    · rintro (h | ⟨p, hp, h⟩)
      · split at h
        · rename_i hm
          rcases (insI_mem _ _ _).1 h with rfl | h
          · exact .inr ⟨a, by simp, hm, rfl⟩
          · exact .inl h
        · exact .inl h
      · exact .inr ⟨p, by simp [hp], h⟩
    · rintro (h | ⟨p, hp, hm, rfl⟩)
      · left
        split
        · exact (insI_mem _ _ _).2 (.inr h)
        · exact h
      · rcases List.mem_cons.1 hp with rfl | hp
        · left
          rw [if_pos hm]
          exact (insI_mem _ _ _).2 (.inl rfl)
        · exact .inr ⟨p, hp, hm, rfl⟩
theorem find_rising (l : List Pr) (n : List UInt8) : RisI (findP l n) := fold_rising l n [] List.Pairwise.nil
theorem find_mem (l : List Pr) (n : List UInt8) (z : Int) : z ∈ findP l n ↔ ∃ p ∈ l, mat p.1 n = true ∧ p.2 = z := by
  unfold findP
  rw [fold_mem]
  simp
theorem find_ext (l m : List Pr) (n : List UInt8) (h : ∀ y, y ∈ l ↔ y ∈ m) : findP l n = findP m n := by
  refine risI_ext _ _ (find_rising _ _) (find_rising _ _) (fun z => ?_)
  rw [find_mem, find_mem]
  constructor
  · rintro ⟨p, hp, h1⟩; exact ⟨p, (h p).1 hp, h1⟩
  · rintro ⟨p, hp, h1⟩; exact ⟨p, (h p).2 hp, h1⟩
end Go.Proofs.YtcicnbbnkeellaaGreatDoor
