
/- The document's small functions: plain, command, holds, Blanks. Conditions: those that each row states. -/
import Derived.Test.YtfdbekfbbihdgaaDoorPl
import Derived.Test.YtfdbekfbbihdgaaDoorSp
namespace Go.Proofs.YtfdbekfbbihdgaaDoor
open Go.RowKit Go.Lib
set_option maxRecDepth 100000
set_option linter.unusedSimpArgs false

theorem rplain_any (w : World) (l : Bs) : Calls Tryd.prog 24 #[str l] w fun e w' => e = .returned (.bool (bare l)) ∧ w' = w := by
  have hb : bare l = ((l == [67, 79, 78, 78, 69, 67, 84]) || (l == [67, 79, 78, 78, 69, 67, 84, 69, 68])) := by
    rw [beq_l, beq_l]; rfl
  obtain ⟨b1, h1⟩ : ∃ b, (l == [67, 79, 78, 78, 69, 67, 84]) = b := ⟨_, rfl⟩
  obtain ⟨b2, h2⟩ : ∃ b, (l == [67, 79, 78, 78, 69, 67, 84, 69, 68]) = b := ⟨_, rfl⟩
  rw [h1, h2] at hb
  rw [hb]
  clear hb
  cases b1 with
  | true =>
    go_enter Tryd.func24, Tryd.ntmps24
    go_wp2
    go_ret
    exact ⟨rfl, rfl⟩
  | false =>
    go_enter Tryd.func24, Tryd.ntmps24
    go_wp2
    go_ret
    exact ⟨rfl, rfl⟩
set_option maxHeartbeats 1000000 in
theorem rholds_any (w : World) (l : Bs) (c : UInt8) (hl : l.length ≤ 1000000000) : Calls Tryd.prog 23 #[str l, .int .u8 c.toNat] w fun e w' => e = .returned (.bool (decide (c ∈ l))) ∧ w' = w := by
  go_enter Tryd.func23, Tryd.ntmps23
  go_wp2_with fail
  go_loop [5] (fun i => ∃ j : Nat, j ≤ l.length ∧ i = .int .i64 j ∧ Hid (∀ (k : Nat) (h : k < l.length), k < j → l[k] ≠ c)) (fun i => l.length - (RowKit.intOf i).toNat)
  case atStart => exact ⟨0, Nat.zero_le _, rfl, fun k _ h => absurd h (Nat.not_lt_zero _)⟩
  case round =>
    obtain ⟨j, hj, rfl, HB⟩ := hrel
    by_cases hlt : j < l.length
    · have gk := get_str l j
      have hjz : (j : Int) < (l.length : Int) := by omega
      have hgj : l.getD j 0 = l[j] := by simp [List.getD_eq_getElem?_getD, hlt]
      rw [hgj] at gk
      by_cases hx : l[j] = c
      · have hr : decide (c ∈ l) = true := by rw [decide_eq_true_iff, ← hx]; exact List.getElem_mem hlt
        rw [hx] at gk
        have HR : Hid (decide (c ∈ l) = true) := hr
        have hcc : ((c.toNat : Int) == (c.toNat : Int)) = true := by simp
        clear hx hgj hr
        go_wp2
        go_ret
        exact ⟨congrArg (fun b => Ending.returned (Value.bool b)) HR.out.symm, rfl⟩
      · have HB2 : Hid (∀ (k : Nat) (h : k < l.length), k < j + 1 → l[k] ≠ c) := fun k hk hk2 => by
          rcases Nat.lt_or_ge k j with h3 | h3
          · exact HB.out k hk h3
          · have : k = j := by omega
            subst this; exact hx
        have hcc : ((l[j].toNat : Int) == (c.toNat : Int)) = false := by
          rw [beq_eq_false_iff_ne]; intro e; exact hx (UInt8.toNat.inj (by omega))
        generalize l[j] = y at *
        clear hx hgj
        go_wp2
        all_goals
          go_round
          case rel => exact ⟨j + 1, by omega, by go_num, HB2⟩
          case measure => simp [RowKit.intOf]; omega
    · obtain rfl : j = l.length := by omega
      have hr : decide (c ∈ l) = false := by
        rw [decide_eq_false_iff_not]
        intro h
        obtain ⟨i, hi, he⟩ := List.getElem_of_mem h
        exact HB.out i hi hi he
      have HR : Hid (decide (c ∈ l) = false) := hr
      clear hr
      go_wp2
      go_ret
      exact ⟨congrArg (fun b => Ending.returned (Value.bool b)) HR.out.symm, rfl⟩
set_option maxHeartbeats 1000000 in
theorem rcommand_any (w : World) (l : Bs) (hl : l.length ≤ 1000000000) : Calls Tryd.prog 22 #[str l] w fun e w' => e = .returned (.bool (isCmd l)) ∧ w' = w := by
  have HE : Hid (∀ (j : Nat) (h : j < l.length), isUp l[j] = false → isCmd l = false) := by
    intro j h h2
    unfold isCmd
    rw [List.all_eq_false.2 ⟨l[j], List.getElem_mem h, by simp [h2]⟩, Bool.false_and]
  have HA : Hid ((∀ (j : Nat) (h : j < l.length), isUp l[j] = true) → isCmd l = (decide (1 ≤ l.length) && decide (l.length ≤ 16))) := by
    intro h
    unfold isCmd
    rw [List.all_eq_true.2, Bool.true_and]
    · congr 1
      cases l with
      | nil => rfl
      | cons a l => simp
    · intro x hx
      obtain ⟨i, hi, rfl⟩ := List.getElem_of_mem hx
      exact h i hi
  go_enter Tryd.func22, Tryd.ntmps22
  go_wp2_with fail
  go_loop [3] (fun i => ∃ j : Nat, j ≤ l.length ∧ i = .int .i64 j ∧ Hid (∀ (k : Nat) (h : k < l.length), k < j → isUp l[k] = true)) (fun i => l.length - (RowKit.intOf i).toNat)
  case atStart => exact ⟨0, Nat.zero_le _, rfl, fun k _ h => absurd h (Nat.not_lt_zero _)⟩
  case round =>
    obtain ⟨j, hj, rfl, HB⟩ := hrel
    by_cases hlt : j < l.length
    · have gk := get_str l j
      have hjz : (j : Int) < (l.length : Int) := by omega
      have hgj : l.getD j 0 = l[j] := by simp [List.getD_eq_getElem?_getD, hlt]
      rw [hgj] at gk
      have HU : Hid (isUp l[j] = (decide (65 ≤ l[j].toNat) && decide (l[j].toNat ≤ 90))) := by show _ = _; rfl
      have HN : Hid (isUp l[j] = false → isCmd l = false) := HE.out j hlt
      have HY : Hid (isUp l[j] = true → (∀ (k : Nat) (h : k < l.length), k < j + 1 → isUp l[k] = true)) := fun h k hk hk2 => by
        rcases Nat.lt_or_ge k j with h3 | h3
        · exact HB.out k hk h3
        · have : k = j := by omega
          subst this; exact h
      generalize l[j] = y at *
      clear hgj
      by_cases h1 : y.toNat < 65
      · have d1 : decide ((y.toNat : Int) < 65) = true := by simp; omega
        have HR : Hid (isCmd l = false) := HN.out (by rw [HU.out]; simp; omega)
        clear HN HY HU
        go_wp2
        go_ret
        exact ⟨congrArg (fun b => Ending.returned (Value.bool b)) HR.out.symm, rfl⟩
      · have d1 : decide ((y.toNat : Int) < 65) = false := by simp; omega
        by_cases h2 : 90 < y.toNat
        · have d2 : decide ((90 : Int) < (y.toNat : Int)) = true := by simp; omega
          have HR : Hid (isCmd l = false) := HN.out (by rw [HU.out]; simp; omega)
          clear HN HY HU
          go_wp2
          go_ret
          exact ⟨congrArg (fun b => Ending.returned (Value.bool b)) HR.out.symm, rfl⟩
        · have d2 : decide ((90 : Int) < (y.toNat : Int)) = false := by simp; omega
          have HB2 : Hid (∀ (k : Nat) (h : k < l.length), k < j + 1 → isUp l[k] = true) := HY.out (by rw [HU.out]; simp; omega)
          clear HN HY HU
          go_wp2
          all_goals
            go_round
            case rel => exact ⟨j + 1, by omega, by go_num, HB2⟩
            case measure => simp [RowKit.intOf]; omega
    · obtain rfl : j = l.length := by omega
      have hr := HA.out (fun k h => HB.out k h h)
      have HR : Hid (isCmd l = (decide (1 ≤ l.length) && decide (l.length ≤ 16))) := hr
      clear hr HA HE HB
      by_cases h1 : 1 ≤ l.length
      · have d1 : decide ((1 : Int) ≤ (l.length : Int)) = true := decide_eq_true (by omega)
        have e1 : decide (1 ≤ l.length) = true := decide_eq_true h1
        have e2 : decide (l.length ≤ 16) = decide ((l.length : Int) ≤ 16) := decide_eq_decide.2 (by omega)
        have HR2 : Hid (isCmd l = decide ((l.length : Int) ≤ 16)) := by show _ = _; rw [HR.out, e1, e2, Bool.true_and]
        clear e1 e2
        go_wp2
        go_ret
        exact ⟨congrArg (fun b => Ending.returned (Value.bool b)) HR2.out.symm, rfl⟩
      · have d1 : decide ((1 : Int) ≤ (l.length : Int)) = false := decide_eq_false (by omega)
        have e1 : decide (1 ≤ l.length) = false := decide_eq_false h1
        have HR2 : Hid (isCmd l = false) := by show _ = _; rw [HR.out, e1, Bool.false_and]
        clear e1
        go_wp2
        go_ret
        exact ⟨congrArg (fun b => Ending.returned (Value.bool b)) HR2.out.symm, rfl⟩
theorem blanks_10 {s : Bs} {k : Nat} (hk : k < s.length) (h : s[k] = 10) : blanksN (s.drop k) = 1 + blanksN (s.drop (k + 1)) := by
  rw [List.drop_eq_getElem_cons hk, h, blanksN_10]; omega
theorem blanks_13 {s : Bs} {k : Nat} (hk : k + 1 < s.length) (h : s[k] = 13) (h2 : s[k + 1] = 10) : blanksN (s.drop k) = 2 + blanksN (s.drop (k + 2)) := by
  rw [List.drop_eq_getElem_cons (by omega), List.drop_eq_getElem_cons hk, h, h2, blanksN_13]
  exact Nat.add_comm _ _
theorem blanks_no {s : Bs} {k : Nat} (hk : k < s.length) (h : s[k] ≠ 10) (h2 : s[k] ≠ 13 ∨ s.getD (k + 1) 0 ≠ 10) : blanksN (s.drop k) = 0 := by
  rw [List.drop_eq_getElem_cons hk]
  refine blanksN_x h (h2.imp id fun h3 h4 => h3 ?_)
  rw [List.head?_drop] at h4
  simp [List.getD_eq_getElem?_getD, h4]
set_option maxHeartbeats 2000000 in
theorem rblanks_any (w : World) (s : Bs) (hs : s.length ≤ 1000000000) : Calls Tryd.prog 18 #[str s] w fun e w' => e = .returned (.int .i64 (blanksN s)) ∧ w' = w := by
  obtain ⟨N, hN⟩ : ∃ N, Hid (blanksN s = N) := ⟨_, (rfl : blanksN s = _)⟩
  rw [hN.out]
  go_enter Tryd.func18, Tryd.ntmps18
  go_wp2_with fail
  go_loop [3] (fun i => ∃ j : Nat, j ≤ s.length ∧ i = .int .i64 j ∧ Hid (N = j + blanksN (s.drop j))) (fun i => s.length - (RowKit.intOf i).toNat)
  case atStart => exact ⟨0, Nat.zero_le _, rfl, by show N = _; rw [← hN.out]; simp⟩
  case round =>
    obtain ⟨j, hj, rfl, HB⟩ := hrel
    clear hN
    by_cases hlt : j < s.length
    · have gk := get_str s j
      have hjz : (j : Int) < (s.length : Int) := by omega
      have hgj : s.getD j 0 = s[j] := by simp [List.getD_eq_getElem?_getD, hlt]
      rw [hgj] at gk
      by_cases h10 : s[j] = 10
      · have HB2 : Hid (N = j + 1 + blanksN (s.drop (j + 1))) := by show _ = _; rw [HB.out, blanks_10 hlt h10]; omega
        rw [h10] at gk
        clear hgj h10
        go_wp2
        all_goals
          go_round
          case rel => exact ⟨j + 1, by omega, by go_num, HB2⟩
          case measure => simp [RowKit.intOf]; omega
      · have n10 : ((s[j].toNat : Int) == 10) = false := by
          rw [beq_eq_false_iff_ne]; intro e; exact h10 (UInt8.toNat.inj (show s[j].toNat = 10 by omega))
        by_cases h13 : s[j] = 13
        · by_cases hl2 : j + 1 < s.length
          · have gk2 := get_str s (j + 1)
            have hgj2 : s.getD (j + 1) 0 = s[j + 1] := by simp [List.getD_eq_getElem?_getD, hl2]
            have hjz2 : (j : Int) + 1 < (s.length : Int) := by omega
            have gk3 : (((j : Int) + 1).toNat) = j + 1 := by omega
            by_cases hy : s[j + 1] = 10
            · have HB2 : Hid (N = j + 2 + blanksN (s.drop (j + 2))) := by show _ = _; rw [HB.out, blanks_13 hl2 h13 hy]; omega
              rw [hgj2, hy] at gk2
              rw [h13] at gk n10
              clear hgj hgj2 h10 h13 hy
              go_wp2
              all_goals
                go_round
                case rel => exact ⟨j + 2, by omega, by go_num, HB2⟩
                case measure => simp [RowKit.intOf]; omega
            · have hz := blanks_no hlt h10 (.inr (by rw [hgj2]; exact hy))
              have ny : ((s[j + 1].toNat : Int) == 10) = false := by
                rw [beq_eq_false_iff_ne]; intro e; exact hy (UInt8.toNat.inj (show s[j + 1].toNat = 10 by omega))
              have hNj : N = j := by have := HB.out; omega
              subst hNj
              rw [hgj2] at gk2
              rw [h13] at gk n10
              generalize s[N + 1] = y at *
              clear hgj hgj2 h10 h13 hz HB hy
              go_wp2
              go_ret
              exact ⟨rfl, rfl⟩
          · have hz := blanks_no hlt h10 (.inr (by rw [List.getD_eq_getElem?_getD, List.getElem?_eq_none (by omega)]; decide))
            have hjz2 : decide ((j : Int) + 1 < (s.length : Int)) = false := by simp; omega
            have hNj : N = j := by have := HB.out; omega
            subst hNj
            rw [h13] at gk n10
            clear hgj h10 h13 hz HB
            go_wp2
            go_ret
            exact ⟨rfl, rfl⟩
        · have hz := blanks_no hlt h10 (.inl h13)
          have n13 : ((s[j].toNat : Int) == 13) = false := by
            rw [beq_eq_false_iff_ne]; intro e; exact h13 (UInt8.toNat.inj (show s[j].toNat = 13 by omega))
          have hNj : N = j := by have := HB.out; omega
          subst hNj
          generalize s[N] = y at *
          clear hgj h10 h13 hz HB
          go_wp2
          go_ret
          exact ⟨rfl, rfl⟩
    · obtain rfl : j = s.length := by omega
      have hNj : N = s.length := by have := HB.out; rw [List.drop_length] at this; simpa [blanksN] using this
      subst hNj
      clear HB
      go_wp2
      go_ret
      exact ⟨rfl, rfl⟩
end Go.Proofs.YtfdbekfbbihdgaaDoor
