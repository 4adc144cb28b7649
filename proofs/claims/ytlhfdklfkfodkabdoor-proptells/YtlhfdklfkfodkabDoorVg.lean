
/- Other floats, other texts. -/
import Derived.Test.YtlhfdklfkfodkabDoorVf
set_option maxRecDepth 100000
namespace Go.Proofs.YtlhfdklfkfodkabDoor.Ff
open Go.Lib
open Go.RowKit Go.Lib Ieee

theorem up_inj {mt mt' : Nat} {ex ex' : Int} (h : Fin1 mt ex) (h' : Fin1 mt' ex') (em : upM mt = upM mt') (ee : upE mt ex = upE mt' ex') : mt = mt' ∧ ex = ex' := by
  have x1 := h.e1
  have x2 := h'.e1
  have hs : upS mt = upS mt' ∧ ex = ex' := by
    unfold upE at ee
    rcases Nat.lt_or_ge mt (2 ^ 52) with c | c
    · have s1 := upS_sub h.m1 c
      have f1 := h.n c
      rcases Nat.lt_or_ge mt' (2 ^ 52) with d | d
      · have f2 := h'.n d
        omega
      · have s2 := upS_norm d h'.m2
        omega
    · have s1 := upS_norm c h.m2
      rcases Nat.lt_or_ge mt' (2 ^ 52) with d | d
      · have f2 := h'.n d
        have s2 := upS_sub h'.m1 d
        omega
      · have s2 := upS_norm d h'.m2
        omega
  refine ⟨?_, hs.2⟩
  unfold upM at em
  rw [hs.1] at em
  exact Nat.eq_of_mul_eq_mul_right (Nat.two_pow_pos _) em
theorem num_neg (mt : Nat) (ex : Int) : numT true mt ex = 45 :: numT false mt ex := txt_neg _ _
theorem num_head {mt : Nat} {ex : Int} (h : Fin1 mt ex) : ∃ c l, numT false mt ex = c :: l ∧ 48 ≤ c.toNat ∧ c.toNat ≤ 57 :=
  txt_head _ (digL_dg _) (by rw [digL_length]; exact kN_pos (dcN_bounds h).1) _
theorem num_val {mt : Nat} {ex : Int} (h : Fin1 mt ex) : 1 ≤ valL (numT false mt ex) := by
  rw [val_num h]
  unfold decS
  have := (dcN_bounds h).1
  exact Nat.mul_pos this (Nat.pow_pos (by omega))
theorem num_ne {mt : Nat} {ex : Int} (h : Fin1 mt ex) (c : UInt8) (l : List UInt8) (hc : c.toNat < 48 ∨ 57 < c.toNat) : numT false mt ex ≠ c :: l := by
  obtain ⟨d, k, e, h1, h2⟩ := num_head h
  rw [e]
  intro he
  have := (List.cons.inj he).1
  subst this
  omega
theorem num_ne0 {mt : Nat} {ex : Int} (h : Fin1 mt ex) : numT false mt ex ≠ [48] := by
  intro e
  have := num_val h
  have h0 : valL [48] = 0 := by
    unfold valL
    rw [show wholeL [48] = 0 from by decide, Nat.zero_mul]
  rw [e, h0] at this
  omega
theorem num_inj {n n' : Bool} {mt mt' : Nat} {ex ex' : Int} (h : Fin1 mt ex) (h' : Fin1 mt' ex') (he : numT n mt ex = numT n' mt' ex') : n = n' ∧ mt = mt' ∧ ex = ex' := by
  have core : numT false mt ex = numT false mt' ex' → mt = mt' ∧ ex = ex' := by
    intro e
    have v := congrArg valL e
    rw [val_num h, val_num h'] at v
    obtain ⟨a, b⟩ := decS_inj h.sh h'.sh v
    exact up_inj h h' a b
  cases n <;> cases n'
  · exact ⟨rfl, core he⟩
  · rw [num_neg] at he
    exact absurd he (num_ne h 45 _ (.inl (by decide)))
  · rw [num_neg] at he
    exact absurd he.symm (num_ne h' 45 _ (.inl (by decide)))
  · rw [num_neg, num_neg] at he
    exact ⟨rfl, core (List.cons.inj he).2⟩
def bk (n : Bool) (mt : Nat) (ex : Int) : Nat := (if n then 2 ^ 63 else 0) + (if mt < 2 ^ 52 then mt else (ex + 1023).toNat * 2 ^ 52 + (mt - 2 ^ 52))
theorem kind (b : Nat) (hb : b < 2 ^ 64) : (isN double b ∧ textB b = [78, 97, 78]) ∨ (b = 2047 * 2 ^ 52 ∧ textB b = [43, 73, 110, 102]) ∨ (b = 4095 * 2 ^ 52 ∧ textB b = [45, 73, 110, 102]) ∨ (b = 0 ∧ textB b = [48]) ∨ (b = 2 ^ 63 ∧ textB b = [45, 48]) ∨ (∃ n mt ex, Fin1 mt ex ∧ textB b = numT n mt ex ∧ b = bk n mt ex) := by
  have hs2 : b / 2 ^ 63 = 0 ∨ b / 2 ^ 63 = 1 := by omega
  have hE : b / 2 ^ 52 % 2 ^ 11 < 2048 := Nat.mod_lt _ (by omega)
  have hM : b % 2 ^ 52 < 2 ^ 52 := Nat.mod_lt _ (by omega)
  have hbn : b = b / 2 ^ 63 * 2 ^ 63 + (b / 2 ^ 52 % 2 ^ 11) * 2 ^ 52 + b % 2 ^ 52 := by omega
  unfold textB
  by_cases h7 : b / 2 ^ 52 % 2 ^ 11 = 2047
  · rw [if_pos h7]
    by_cases hm : b % 2 ^ 52 = 0
    · rw [if_neg (by simpa using hm)]
      rcases hs2 with h | h
      · rw [if_pos h]; exact .inr (.inl ⟨by rw [h, h7, hm] at hbn; omega, rfl⟩)
      · rw [if_neg (by omega)]; exact .inr (.inr (.inl ⟨by rw [h, h7, hm] at hbn; omega, rfl⟩))
    · rw [if_pos hm]; exact .inl ⟨(isN_bits b).2 ⟨h7, hm⟩, rfl⟩
  · rw [if_neg h7]
    by_cases h0 : b / 2 ^ 52 % 2 ^ 11 = 0
    · rw [if_pos h0]
      by_cases hm : b % 2 ^ 52 = 0
      · rw [if_pos hm]
        rcases hs2 with h | h
        · rw [if_pos h]; exact .inr (.inr (.inr (.inl ⟨by rw [h, h0, hm] at hbn; omega, rfl⟩)))
        · rw [if_neg (by omega)]; exact .inr (.inr (.inr (.inr (.inl ⟨by rw [h, h0, hm] at hbn; omega, rfl⟩))))
      · rw [if_neg hm]
        refine .inr (.inr (.inr (.inr (.inr ⟨_, _, _, ⟨by omega, by omega, by omega, by omega, fun _ => rfl⟩, rfl, ?_⟩))))
        unfold bk
        rw [if_pos hM]
        rcases hs2 with h | h
        · rw [show decide (b / 2 ^ 63 ≠ 0) = false from by simp [h]]
          rw [h, h0] at hbn
          simp only [Bool.false_eq_true, if_false]
          omega
        · rw [show decide (b / 2 ^ 63 ≠ 0) = true from by simp [h]]
          rw [h, h0] at hbn
          simp only [if_true]
          omega
    · rw [if_neg h0]
      refine .inr (.inr (.inr (.inr (.inr ⟨_, _, _, ⟨by omega, by omega, by omega, by omega, fun h => by omega⟩, rfl, ?_⟩))))
      unfold bk
      have hlt : ¬ (b % 2 ^ 52 + 2 ^ 52 < 2 ^ 52) := by omega
      rw [if_neg hlt, show (((b / 2 ^ 52 % 2 ^ 11 : Nat) : Int) - 1023 + 1023).toNat = b / 2 ^ 52 % 2 ^ 11 from by omega, show b % 2 ^ 52 + 2 ^ 52 - 2 ^ 52 = b % 2 ^ 52 from by omega]
      rcases hs2 with h | h
      · rw [show decide (b / 2 ^ 63 ≠ 0) = false from by simp [h]]
        rw [h] at hbn
        simp only [Bool.false_eq_true, if_false]
        omega
      · rw [show decide (b / 2 ^ 63 ≠ 0) = true from by simp [h]]
        rw [h] at hbn
        simp only [if_true]
        omega
theorem num_ne_all {n : Bool} {mt : Nat} {ex : Int} (h : Fin1 mt ex) : numT n mt ex ≠ [78, 97, 78] ∧ numT n mt ex ≠ [43, 73, 110, 102] ∧ numT n mt ex ≠ [45, 73, 110, 102] ∧ numT n mt ex ≠ [48] ∧ numT n mt ex ≠ [45, 48] := by
  cases n
  · exact ⟨num_ne h _ _ (.inr (by decide)), num_ne h _ _ (.inl (by decide)), num_ne h _ _ (.inl (by decide)), num_ne0 h, num_ne h _ _ (.inl (by decide))⟩
  · rw [num_neg]
    refine ⟨fun e => ?_, fun e => ?_, fun e => ?_, fun e => ?_, fun e => ?_⟩
    · exact absurd (List.cons.inj e).1 (by decide)
    · exact absurd (List.cons.inj e).1 (by decide)
    · exact num_ne h _ _ (.inr (by decide)) (List.cons.inj e).2
    · exact absurd (List.cons.inj e).1 (by decide)
    · exact num_ne0 h (List.cons.inj e).2
/-- Other floats, other texts: all that is no number is one. -/
theorem textB_inj {a b : Nat} (ha : a < 2 ^ 64) (hb : b < 2 ^ 64) (h : textB a = textB b) : a = b ∨ (isN double a ∧ isN double b) := by
  rcases kind a ha with ⟨e1, t1⟩ | ⟨e1, t1⟩ | ⟨e1, t1⟩ | ⟨e1, t1⟩ | ⟨e1, t1⟩ | ⟨n, mt, ex, F, t1, e1⟩ <;>
  rcases kind b hb with ⟨e2, t2⟩ | ⟨e2, t2⟩ | ⟨e2, t2⟩ | ⟨e2, t2⟩ | ⟨e2, t2⟩ | ⟨n', mt', ex', F', t2, e2⟩ <;>
  rw [t1, t2] at h
  all_goals first
    | exact .inr ⟨e1, e2⟩
    | exact absurd h (by decide)
    | exact .inl (e1.trans e2.symm)
    | exact absurd h (num_ne_all F).1
    | exact absurd h (num_ne_all F).2.1
    | exact absurd h (num_ne_all F).2.2.1
    | exact absurd h (num_ne_all F).2.2.2.1
    | exact absurd h (num_ne_all F).2.2.2.2
    | exact absurd h.symm (num_ne_all F').1
    | exact absurd h.symm (num_ne_all F').2.1
    | exact absurd h.symm (num_ne_all F').2.2.1
    | exact absurd h.symm (num_ne_all F').2.2.2.1
    | exact absurd h.symm (num_ne_all F').2.2.2.2
    | (obtain ⟨rfl, rfl, rfl⟩ := num_inj F F' h
       exact .inl (e1.trans e2.symm))
theorem canon_texts {a b : Nat} (ha : a < 2 ^ 64) (hb : b < 2 ^ 64) : decide (textB (canonB a) = textB (canonB b)) = decide (canonB a = canonB b) := by
  by_cases h : canonB a = canonB b
  · rw [decide_eq_true h, h, decide_eq_true rfl]
  · rw [decide_eq_false h]
    refine decide_eq_false fun e => h ?_
    rcases textB_inj (canonB_lt ha) (canonB_lt hb) e with h1 | ⟨h1, h2⟩
    · exact h1
    · have hc : ∀ x, isN double (canonB x) → canonB x = 9221120237041090561 := by
        intro x hx
        unfold canonB at hx ⊢
        by_cases hn : isN double x
        · rw [if_pos hn]
        · rw [if_neg hn] at hx
          exact absurd hx hn
      rw [hc a h1, hc b h2]
end Go.Proofs.YtlhfdklfkfodkabDoor.Ff
