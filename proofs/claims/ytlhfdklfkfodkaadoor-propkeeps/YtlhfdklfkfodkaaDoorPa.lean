/- What prop.Compare answers of any two values. -/
import Derived.Test.YtlhfdklfkfodkaaDoorFk
namespace Go.Proofs.YtlhfdklfkfodkaaDoor
open Go.RowKit Go.Lib Ieee

theorem isnanI (w : World) (a : Int) : Calls Tryd.prog 37 #[.int .i64 a] w fun e w' => e = .returned (.bool false) ∧ w' = w := by
  go_enter Tryd.func37, Tryd.ntmps37
  go_wp2
  go_ret
  exact ⟨ret_b (by simp), rfl⟩
theorem isnanS (w : World) (a : ByteArray) : Calls Tryd.prog 38 #[.string a] w fun e w' => e = .returned (.bool false) ∧ w' = w := by
  go_enter Tryd.func38, Tryd.ntmps38
  go_wp2
  go_ret
  exact ⟨ret_b (by simp), rfl⟩

def cmpZ (a b : Int) : Int := if a < b then -1 else if b < a then 1 else 0

theorem cmpI_any (w : World) (a b : Int) :
    Calls Tryd.prog 20 #[.int .i64 a, .int .i64 b] w fun e w' => e = .returned (.int .i64 (cmpZ a b)) ∧ w' = w := by
  have h1 := isnanI w a
  have h2 := isnanI w b
  go_enter Tryd.func20, Tryd.ntmps20
  go_wp2_with fail
  refine h1.mono ?_
  rintro e w1 ⟨rfl, rfl⟩
  go_wp2_with fail
  refine h2.mono ?_
  rintro e w2 ⟨rfl, rfl⟩
  clear h1 h2
  go_wp2
  all_goals go_ret
  all_goals exact ⟨ret_i (by unfold cmpZ; (repeat' split) <;> first | rfl | (simp_all; done) | (simp_all; omega)), rfl⟩


/-- One of two lists of bytes ahead of the other. -/
theorem bl_irrefl : ∀ x : List UInt8, Op.bytesLess x x = false
  | [] => rfl
  | a :: x => by simp [Op.bytesLess, bl_irrefl x]
theorem bl_tri : ∀ x y : List UInt8, Op.bytesLess x y = false → Op.bytesLess y x = false → x = y
  | [], [], _, _ => rfl
  | [], _ :: _, h, _ => by simp [Op.bytesLess] at h
  | _ :: _, [], _, h => by simp [Op.bytesLess] at h
  | a :: x, b :: y, h, h' => by
    simp only [Op.bytesLess, Bool.or_eq_false_iff, Bool.and_eq_false_iff, decide_eq_false_iff_not, beq_eq_false_iff_ne] at h h'
    have e : a = b := UInt8.le_antisymm (UInt8.not_lt.1 h'.1) (UInt8.not_lt.1 h.1)
    subst e
    rw [bl_tri x y (h.2.resolve_left (by simp)) (h'.2.resolve_left (by simp))]
theorem bl_trans : ∀ x y z : List UInt8, Op.bytesLess x y = true → Op.bytesLess y z = true → Op.bytesLess x z = true
  | [], [], _, h, _ => by simp [Op.bytesLess] at h
  | [], _ :: _, [], _, h => by simp [Op.bytesLess] at h
  | [], _ :: _, _ :: _, _, _ => by simp [Op.bytesLess]
  | _ :: _, [], _, h, _ => by simp [Op.bytesLess] at h
  | _ :: _, _ :: _, [], _, h => by simp [Op.bytesLess] at h
  | a :: x, b :: y, c :: z, h, h' => by
    simp only [Op.bytesLess, Bool.or_eq_true, Bool.and_eq_true, decide_eq_true_eq, beq_iff_eq] at h h' ⊢
    rcases h with h | ⟨rfl, h⟩
    · rcases h' with h' | ⟨rfl, h'⟩
      · exact .inl (UInt8.lt_trans h h')
      · exact .inl h
    · rcases h' with h' | ⟨rfl, h'⟩
      · exact .inl h'
      · exact .inr ⟨rfl, bl_trans x y z h h'⟩
theorem bl_asymm (x y : List UInt8) (h : Op.bytesLess x y = true) : Op.bytesLess y x = false := by
  cases e : Op.bytesLess y x with
  | false => rfl
  | true => have := bl_trans _ _ _ h e; rw [bl_irrefl] at this; cases this

def cmpL (x y : List UInt8) : Int := if Op.bytesLess x y = true then -1 else if x = y then 0 else 1
theorem cmpL_lt {x y : List UInt8} (h : Op.bytesLess x y = true) : cmpL x y = -1 := by simp [cmpL, h]
theorem cmpL_self (x : List UInt8) : cmpL x x = 0 := by simp [cmpL, bl_irrefl]
theorem cmpL_gt {x y : List UInt8} (h : Op.bytesLess x y = false) (h' : x ≠ y) : cmpL x y = 1 := by simp [cmpL, h, h']

theorem cmpS_any (w : World) (a b : ByteArray) :
    Calls Tryd.prog 21 #[.string a, .string b] w fun e w' => e = .returned (.int .i64 (cmpL a.toList b.toList)) ∧ w' = w := by
  have h1 := isnanS w a
  have h2 := isnanS w b
  go_enter Tryd.func21, Tryd.ntmps21
  go_wp2_with fail
  refine h1.mono ?_
  rintro e w1 ⟨rfl, rfl⟩
  go_wp2_with fail
  refine h2.mono ?_
  rintro e w2 ⟨rfl, rfl⟩
  clear h1 h2
  go_wp2
  all_goals go_ret
  · rename_i h
    exact ⟨ret_i (cmpL_lt h).symm, rfl⟩
  · rename_i h _ _ h'
    exact ⟨ret_i (cmpL_gt h (by simp_all)).symm, rfl⟩
  · have e : a.toList = b.toList := by simp_all
    exact ⟨ret_i (by rw [e, cmpL_self]), rfl⟩

/-- The first of four numbers that isn't nought. -/
def or4 (a b c d : Int) : Int := if a ≠ 0 then a else if b ≠ 0 then b else if c ≠ 0 then c else d
theorem or4_hit (a b c d : Int) : ∀ k, k < 4 → (∀ j, j < k → [a, b, c, d].getD j 0 = 0) → [a, b, c, d].getD k 0 ≠ 0 → or4 a b c d = [a, b, c, d].getD k 0
  | 0, _, _, h => by simp at h; simp [or4, h]
  | 1, _, z, h => by have := z 0 (by omega); simp at this h; simp [or4, this, h]
  | 2, _, z, h => by have := z 0 (by omega); have := z 1 (by omega); simp at *; simp [or4, *]
  | 3, _, z, h => by have := z 0 (by omega); have := z 1 (by omega); have := z 2 (by omega); simp at *; simp [or4, *]
  | k + 4, h, _, _ => by omega
theorem or4_none (a b c d : Int) (z : ∀ j, j < 4 → [a, b, c, d].getD j 0 = 0) : or4 a b c d = 0 := by
  have := z 0 (by omega); have := z 1 (by omega); have := z 2 (by omega); have := z 3 (by omega); simp at *; simp [or4, *]

theorem or_any (w : World) (q : Nat) (a b c d : Int) (m : Nat × Nat) (h : w.heap[q]? = some (.cells #[.int .i64 a, .int .i64 b, .int .i64 c, .int .i64 d] 3 m)) :
    Calls Tryd.prog 19 #[.slice (some ⟨q, 0, none⟩) 4 4] w fun e w' => e = .returned (.int .i64 (or4 a b c d)) ∧ w' = w := by
  have hc : Hid (∀ k, k < 4 → w.cell? ⟨q, k, none⟩ = some (.int .i64 ([a, b, c, d].getD k 0))) := fun k hk => by
    match k, hk with
    | 0, _ => simp [World.cell?, h]
    | 1, _ => simp [World.cell?, h]
    | 2, _ => simp [World.cell?, h]
    | 3, _ => simp [World.cell?, h]
  have H1 : Hid (∀ k, k < 4 → (∀ j, j < k → [a, b, c, d].getD j 0 = 0) → [a, b, c, d].getD k 0 ≠ 0 → or4 a b c d = [a, b, c, d].getD k 0) := or4_hit a b c d
  have H2 : Hid ((∀ j, j < 4 → [a, b, c, d].getD j 0 = 0) → or4 a b c d = 0) := or4_none a b c d
  clear h
  generalize or4 a b c d = r at *
  generalize [a, b, c, d] = l at *
  go_enter Tryd.func19, Tryd.ntmps19
  go_wp2_with fail
  go_loopw [8] (fun i wr => ∃ k : Nat, k ≤ 4 ∧ i = .int .i64 k ∧ wr = w ∧ Hid (∀ j, j < k → l.getD j 0 = 0)) (fun i _ => 4 - (RowKit.intOf i).toNat)
  case atStart => exact ⟨0, by omega, rfl, rfl, fun j hj => by omega⟩
  case round =>
    obtain ⟨k, hk, rfl, rfl, hz⟩ := hrel
    by_cases hlt : k < 4
    · have hcx := hc.out k hlt
      have h1 := H1.out k hlt hz.out
      have hS : Hid (l.getD k 0 = 0 → ∀ j, j < k + 1 → l.getD j 0 = 0) := fun h j hj => by
        by_cases e : j = k
        · rw [e]; exact h
        · exact hz.out j (by omega)
      generalize l.getD k 0 = z at *
      by_cases hz0 : z = 0
      · subst hz0
        have hz2 := hS.out rfl
        have hz3 : Hid (∀ j, j < k + 1 → l.getD j 0 = 0) := hz2
        clear hz2 h1 hS
        go_wp2
        go_roundw
        case rel => exact ⟨k + 1, by omega, by go_num, trivial, hz3⟩
        case measure => simp [RowKit.intOf]; omega
      · have h2 := h1 hz0
        clear h1 hS
        go_wp2
        go_ret
        exact ⟨ret_i h2.symm, rfl⟩
    · have hk4 : k = 4 := by omega
      subst hk4
      have h2 := H2.out hz.out
      go_wp2
      go_ret
      exact ⟨ret_i h2.symm, rfl⟩
end Go.Proofs.YtlhfdklfkfodkaaDoor
