/- cmp.Compare of texts, cmp.Or of two numbers; the closure by which pairs are put in order. Conditions: those that each row states. -/
import Derived.Test.YtcicnbbnkeellaaGreatDoorIn
namespace Go.Proofs.YtcicnbbnkeellaaGreatDoor
open Go.RowKit
set_option maxRecDepth 100000

theorem ret_i {a b : Int} (h : a = b) : Ending.returned (.int .i64 a) = Ending.returned (.int .i64 b) := by rw [h]
theorem ret_b {a b : Bool} (h : a = b) : Ending.returned (.bool a) = Ending.returned (.bool b) := by rw [h]
theorem isnanS (w : World) (a : ByteArray) : Calls Tryz.prog 65 #[.string a] w fun e w' => e = .returned (.bool false) ∧ w' = w := by
  go_enter Tryz.func65, Tryz.ntmps65
  go_wp2
  go_ret
  exact ⟨ret_b (by simp), rfl⟩
def cmpL (x y : List UInt8) : Int := if Op.bytesLess x y = true then -1 else if x = y then 0 else 1
theorem cmpL_lt {x y : List UInt8} (h : Op.bytesLess x y = true) : cmpL x y = -1 := by simp [cmpL, h]
theorem cmpL_self (x : List UInt8) : cmpL x x = 0 := by simp [cmpL, bl_irrefl]
theorem cmpL_gt {x y : List UInt8} (h : Op.bytesLess x y = false) (h' : x ≠ y) : cmpL x y = 1 := by simp [cmpL, h, h']
theorem cmpS_any (w : World) (a b : ByteArray) :
    Calls Tryz.prog 42 #[.string a, .string b] w fun e w' => e = .returned (.int .i64 (cmpL a.toList b.toList)) ∧ w' = w := by
  have h1 := isnanS w a
  have h2 := isnanS w b
  go_enter Tryz.func42, Tryz.ntmps42
  go_wp2_with fail
  refine h1.mono ?_
  rintro e w1 ⟨rfl, rfl⟩
  go_wp2_with fail
  refine h2.mono ?_
  rintro e w2 ⟨rfl, rfl⟩
  clear h1 h2
  go_wp2
  all_goals go_ret
  · rename_i h
    exact ⟨ret_i (cmpL_lt h).symm, rfl⟩
  · rename_i h _ _ h'
    exact ⟨ret_i (cmpL_gt h (by simp_all)).symm, rfl⟩
  · have e : a.toList = b.toList := by simp_all
    exact ⟨ret_i (by rw [e, cmpL_self]), rfl⟩
/-- The first of two numbers that isn't nought. -/
def or2 (a b : Int) : Int := if a ≠ 0 then a else b
theorem or_any (w : World) (q : Nat) (a b : Int) (m : Nat × Nat) (h : w.heap[q]? = some (.cells #[.int .i64 a, .int .i64 b] 3 m)) :
    Calls Tryz.prog 41 #[.slice (some ⟨q, 0, none⟩) 2 2] w fun e w' => e = .returned (.int .i64 (or2 a b)) ∧ w' = w := by
  have hc : Hid (∀ k, k < 2 → w.cell? ⟨q, k, none⟩ = some (.int .i64 ([a, b].getD k 0))) := fun k hk => by
    match k, hk with
    | 0, _ => simp [World.cell?, h]
    | 1, _ => simp [World.cell?, h]
  have H1 : Hid (∀ k, k < 2 → (∀ j, j < k → [a, b].getD j 0 = 0) → [a, b].getD k 0 ≠ 0 → or2 a b = [a, b].getD k 0) := fun k hk hz h1 => by
    match k, hk with
    | 0, _ => simp at h1; simp [or2, h1]
    | 1, _ => have := hz 0 (by omega); simp at this h1; simp [or2, this]
  have H2 : Hid ((∀ j, j < 2 → [a, b].getD j 0 = 0) → or2 a b = 0) := fun z => by
    have := z 0 (by omega); have := z 1 (by omega); simp at *; simp [or2, *]
  clear h
  generalize or2 a b = r at *
  generalize [a, b] = l at *
  go_enter Tryz.func41, Tryz.ntmps41
  go_wp2_with fail
  go_loopw [8] (fun i wr => ∃ k : Nat, k ≤ 2 ∧ i = .int .i64 k ∧ wr = w ∧ Hid (∀ j, j < k → l.getD j 0 = 0)) (fun i _ => 2 - (RowKit.intOf i).toNat)
  case atStart => exact ⟨0, by omega, rfl, rfl, fun j hj => by omega⟩
  case round =>
    obtain ⟨k, hk, rfl, rfl, hz⟩ := hrel
    by_cases hlt : k < 2
    · have hcx := hc.out k hlt
      have h1 := H1.out k hlt hz.out
      have hS : Hid (l.getD k 0 = 0 → ∀ j, j < k + 1 → l.getD j 0 = 0) := fun h j hj => by
        by_cases e : j = k
        · rw [e]; exact h
        · exact hz.out j (by omega)
      generalize l.getD k 0 = z at *
      by_cases hz0 : z = 0
      · subst hz0
        have hz2 := hS.out rfl
        have hz3 : Hid (∀ j, j < k + 1 → l.getD j 0 = 0) := hz2
        clear hz2 h1 hS
        go_wp2
        go_roundw
        case rel => exact ⟨k + 1, by omega, by go_num, trivial, hz3⟩
        case measure => simp [RowKit.intOf]; omega
      · have h9 : Hid (r = z) := h1 hz0
        clear h1 hS
        go_wp2
        go_ret
        exact ⟨ret_i h9.out.symm, rfl⟩
    · obtain rfl : k = 2 := by omega
      have h9 : Hid (r = 0) := H2.out hz.out
      go_wp2
      go_ret
      exact ⟨ret_i h9.out.symm, rfl⟩
end Go.Proofs.YtcicnbbnkeellaaGreatDoor
