
/- Whether a command is bare, whether a text can be one; the first header of a name, as the program and as the document have it. Conditions: those that each row states. -/
import Derived.Test.YtfdbekfbbihdgaaDoorSb
import Derived.Test.YtfdbekfbbihdgaaDoorHh
namespace Go.Proofs.YtfdbekfbbihdgaaDoor
open Go.RowKit Go.Lib
set_option maxRecDepth 100000
set_option linter.unusedSimpArgs false

theorem beq_l (l m : Bs) : (l == m) = decide (l = m) := by
  rw [Bool.eq_iff_iff, beq_iff_eq, decide_eq_true_iff]
theorem isbare_any (w : World) (l : Bs) : Calls Tryd.prog 32 #[str l] w fun e w' => e = .returned (.bool (bare l)) ∧ w' = w := by
  have hb : bare l = ((l == [67, 79, 78, 78, 69, 67, 84]) || (l == [67, 79, 78, 78, 69, 67, 84, 69, 68])) := by
    rw [beq_l, beq_l]; rfl
  obtain ⟨b1, h1⟩ : ∃ b, (l == [67, 79, 78, 78, 69, 67, 84]) = b := ⟨_, rfl⟩
  obtain ⟨b2, h2⟩ : ∃ b, (l == [67, 79, 78, 78, 69, 67, 84, 69, 68]) = b := ⟨_, rfl⟩
  rw [h1, h2] at hb
  rw [hb]
  clear hb
  cases b1 with
  | true =>
    go_enter Tryd.func32, Tryd.ntmps32
    go_wp2
    go_ret
    exact ⟨rfl, rfl⟩
  | false =>
    go_enter Tryd.func32, Tryd.ntmps32
    go_wp2
    go_ret
    exact ⟨rfl, rfl⟩
set_option maxHeartbeats 1000000 in
theorem iscmd_any (w : World) (l : Bs) (hl : l.length ≤ 140737488355328) : Calls Tryd.prog 30 #[str l] w fun e w' => e = .returned (.bool (isCmd l)) ∧ Below w.heap.size w w' := by
  obtain ⟨c, W, hcv, hcell, hbW⟩ := bytes_of w l
  have HC : Hid (∀ j (h : j < l.length), W.cell? ⟨w.heap.size, j, none⟩ = some (.int .u8 (l[j].toNat : Int))) := hcell
  have HE : Hid (∀ (j : Nat) (h : j < l.length), isUp l[j] = false → isCmd l = false) := by
    intro j h h2
    unfold isCmd
    rw [List.all_eq_false.2 ⟨l[j], List.getElem_mem h, by simp [h2]⟩, Bool.false_and]
  have HA : Hid ((∀ (j : Nat) (h : j < l.length), isUp l[j] = true) → isCmd l = (decide (l ≠ []) && decide (l.length ≤ 16))) := by
    intro h
    unfold isCmd
    rw [List.all_eq_true.2, Bool.true_and]
    intro x hx
    obtain ⟨i, hi, rfl⟩ := List.getElem_of_mem hx
    exact h i hi
  clear hcell
  go_enter Tryd.func30, Tryd.ntmps30
  go_wp2_with fail
  go_loop [8] (fun i => ∃ j : Nat, j ≤ l.length ∧ i = .int .i64 j ∧ Hid (∀ (k : Nat) (h : k < l.length), k < j → isUp l[k] = true)) (fun i => l.length - (RowKit.intOf i).toNat)
  case atStart => exact ⟨0, Nat.zero_le _, rfl, fun k _ h => absurd h (Nat.not_lt_zero _)⟩
  case round =>
    obtain ⟨j, hj, rfl, HB⟩ := hrel
    by_cases hlt : j < l.length
    · have hcj := HC.out j hlt
      have hjz : (j : Int) < (l.length : Int) := by omega
      have HU : Hid (isUp l[j] = (decide (65 ≤ l[j].toNat) && decide (l[j].toNat ≤ 90))) := by show _ = _; rfl
      have HN : Hid (isUp l[j] = false → isCmd l = false) := HE.out j hlt
      have HY : Hid (isUp l[j] = true → (∀ (k : Nat) (h : k < l.length), k < j + 1 → isUp l[k] = true)) := fun h k hk hk2 => by
        rcases Nat.lt_or_ge k j with h3 | h3
        · exact HB.out k hk h3
        · have : k = j := by omega
          subst this; exact h
      generalize l[j].toNat = x at *
      by_cases h1 : x < 65
      · have d1 : decide ((x : Int) < 65) = true := by simp; omega
        go_wp2
        go_ret
        refine ⟨?_, hbW⟩
        rw [HN.out (by rw [HU.out]; simp; omega)]
        rfl
      · have d1 : decide ((x : Int) < 65) = false := by simp; omega
        by_cases h2 : 90 < x
        · have d2 : decide ((90 : Int) < (x : Int)) = true := by simp; omega
          go_wp2
          go_ret
          refine ⟨?_, hbW⟩
          rw [HN.out (by rw [HU.out]; simp; omega)]
          rfl
        · have d2 : decide ((90 : Int) < (x : Int)) = false := by simp; omega
          go_wp2
          all_goals
            go_round
            case rel => exact ⟨j + 1, by omega, by go_num, HY.out (by rw [HU.out]; simp; omega)⟩
            case measure => simp [RowKit.intOf]; omega
    · have hjk : j = l.length := by omega
      subst hjk
      have HR := HA.out (fun k hk => HB.out k hk hk)
      cases l with
      | nil =>
        go_wp2
        go_ret
        exact ⟨rfl, hbW⟩
      | cons x l =>
        go_wp2
        go_ret
        refine ⟨?_, hbW⟩
        show Ending.returned (.bool (decide ((l.length : Int) + 1 ≤ 16))) = _
        congr 2
        rw [Bool.eq_iff_iff, decide_eq_true_iff, decide_eq_true_iff]
        omega

/-- A frame as a value: its headers lie somewhere. -/
abbrev frV (c : Bs) (hv : Value) (b : Bs) : Value := .agg #[str c, hv, str b]
theorem getL_at : ∀ (n : Bs) (l : List Hd) (j : Nat) (h : j < l.length), (∀ (k : Nat) (h : k < l.length), k < j → l[k].1 ≠ n) → l[j].1 = n → getL n l = some l[j].2
  | n, a :: l, 0, _, _, h2 => by
    rw [getL, if_pos (by simpa using h2)]
    rfl
  | n, a :: l, j + 1, h, h1, h2 => by
    have h3 : ¬ a.1 = n := h1 0 (by simp) (by omega)
    rw [getL, if_neg h3]
    exact getL_at n l j (by simpa using h) (fun k hk hk2 => h1 (k + 1) (by simpa using hk) (by omega)) (by simpa using h2)
theorem getL_none : ∀ (n : Bs) (l : List Hd), (∀ (k : Nat) (h : k < l.length), l[k].1 ≠ n) → getL n l = none
  | n, [], _ => rfl
  | n, a :: l, h => by
    have h3 : ¬ a.1 = n := h 0 (by simp)
    rw [getL, if_neg h3]
    exact getL_none n l (fun k hk => h (k + 1) (by simpa using hk))
def getV (n : Bs) (l : List Hd) : Value := match getL n l with
  | some t => .tuple #[str t, .bool true]
  | none => .tuple #[str [], .bool false]
set_option maxHeartbeats 1000000 in
theorem get_some (w : World) (c b n : Bs) (l : List Hd) (g o cp : Nat) (h : ∀ i (h : i < l.length), HdAt w g (o + i * 2) l[i]) (hl : l.length ≤ 9223372036854775806) : Calls Tryd.prog 14 #[frV c (.slice (some ⟨g, o, none⟩) l.length cp) b, str n] w fun e w' => e = .returned (getV n l) ∧ Below w.heap.size w w' := by
  have HA : Hid (∀ (j : Nat) (h : j < l.length), (∀ (k : Nat) (h : k < l.length), k < j → l[k].1 ≠ n) → l[j].1 = n → getV n l = .tuple #[str l[j].2, .bool true]) := fun j h h1 h2 => by
    show getV n l = _
    unfold getV
    rw [getL_at n l j h h1 h2]
  have HZ : Hid ((∀ (k : Nat) (h : k < l.length), l[k].1 ≠ n) → getV n l = .tuple #[str [], .bool false]) := fun h => by
    unfold getV
    rw [getL_none n l h]
  have H : Hid (∀ i (h : i < l.length), HdAt w g (o + i * 2) l[i]) := h
  clear h
  generalize getV n l = gv at *
  have k0 := Blk.new w #[str c, .slice (some ⟨g, o, none⟩) l.length cp, str b] 24
  have hb0 := below_new w (.cells #[str c, .slice (some ⟨g, o, none⟩) l.length cp, str b] 24)
  go_enter Tryd.func14, Tryd.ntmps14
  go_upto_region 1 with fail
  generalize w.alloc (.cells #[str c, .slice (some ⟨g, o, none⟩) l.length cp, str b] 24) = w1 at *
  have c1 : w1.cell? ⟨w.heap.size, 1, none⟩ = some (.slice (some ⟨g, o, none⟩) l.length cp) := k0.cell 1
  have hq : w.heap.size < w1.heap.size := k0.lt
  go_wp2_with fail
  go_loopw [11] (fun i w2 => ∃ j : Nat, j ≤ l.length ∧ i = .int .i64 j ∧ Below w1.heap.size w1 w2 ∧ Hid (∀ (k : Nat) (h : k < l.length), k < j → l[k].1 ≠ n)) (fun i _ => l.length - (RowKit.intOf i).toNat)
  case atStart => exact ⟨0, Nat.zero_le _, rfl, Below.refl _ _, fun k _ h => absurd h (Nat.not_lt_zero _)⟩
  case round =>
    obtain ⟨j, hj, rfl, hbr, HB⟩ := hrel
    have hbw := hb0.trans (hbr.mono (Nat.le_of_lt hq))
    have hwr := hbr.size
    by_cases hlt : j < l.length
    · obtain ⟨a0, a1⟩ := (H.out j hlt).on hbw
      have c2 : wr.cell? ⟨w.heap.size, 1, none⟩ = some (.slice (some ⟨g, o, none⟩) l.length cp) := by rw [hbr.cell (p := ⟨w.heap.size, 1, none⟩) hq]; exact c1
      have HY : Hid (l[j].1 ≠ n → (∀ (k : Nat) (h : k < l.length), k < j + 1 → l[k].1 ≠ n)) := fun h k hk hk2 => by
        rcases Nat.lt_or_ge k j with h3 | h3
        · exact HB.out k hk h3
        · have : k = j := by omega
          subst this; exact h
      have HA2 : Hid (l[j].1 = n → gv = .tuple #[str l[j].2, .bool true]) := HA.out j hlt HB.out
      obtain ⟨p, hp⟩ : ∃ p, p = l[j] := ⟨_, rfl⟩
      rw [← hp] at a0 a1 HY HA2
      obtain ⟨pn, pt⟩ := p
      dsimp only at a0 a1 HY HA2
      clear hp
      have hjz : (j : Int) < (l.length : Int) := by omega
      by_cases hn : pn = n
      · subst hn
        have hg := HA2.out rfl
        subst hg
        go_wp2
        go_ret2
        exact ⟨rfl, hbw.alloc (by omega) _⟩
      · have hnb : (pn == n) = false := by rw [beq_l]; simpa using hn
        go_wp2
        all_goals
          go_roundw
          case rel => exact ⟨j + 1, by omega, by go_num, hbr.alloc hwr _, HY.out hn⟩
          case measure => simp [RowKit.intOf]; omega
    · obtain rfl : j = l.length := by omega
      have hg := HZ.out (fun k hk => HB.out k hk hk)
      subst hg
      go_wp2
      go_ret2
      exact ⟨rfl, hbw⟩
set_option maxHeartbeats 1000000 in
theorem get_nil (w : World) (c b n : Bs) (a : Option Addr) (cp : Nat) : Calls Tryd.prog 14 #[frV c (.slice a 0 cp) b, str n] w fun e w' => e = .returned (getV n []) ∧ Below w.heap.size w w' := by
  show Calls Tryd.prog 14 #[frV c (.slice a 0 cp) b, str n] w fun e w' => e = .returned (.tuple #[str [], .bool false]) ∧ Below w.heap.size w w'
  have hb0 := below_new w (.cells #[str c, .slice a 0 cp, str b] 24)
  go_enter Tryd.func14, Tryd.ntmps14
  go_wp2_with fail
  go_loopw [11] (fun i w2 => i = .int .i64 0 ∧ w2 = w.alloc (.cells #[str c, .slice a 0 cp, str b] 24)) (fun _ _ => 0)
  case atStart => exact ⟨rfl, rfl⟩
  case round =>
    obtain ⟨rfl, rfl⟩ := hrel
    go_wp2
    go_ret2
    exact ⟨rfl, hb0⟩
theorem get_any (w : World) (c b n : Bs) (hv : Value) (l : List Hd) (hr : RdH w hv l) (hl : l.length ≤ 9223372036854775806) : Calls Tryd.prog 14 #[frV c hv b, str n] w fun e w' => e = .returned (getV n l) ∧ Below w.heap.size w w' := by
  rcases hr with ⟨⟨a, cp, rfl⟩, rfl⟩ | ⟨g, o, cp, rfl, _, h⟩
  · exact get_nil w c b n a cp
  · exact get_some w c b n l g o cp h hl
set_option maxHeartbeats 1000000 in
theorem rget_some (w : World) (c b n : Bs) (l : List Hd) (g o cp : Nat) (h : ∀ i (h : i < l.length), HdAt w g (o + i * 2) l[i]) (hl : l.length ≤ 9223372036854775806) : Calls Tryd.prog 15 #[frV c (.slice (some ⟨g, o, none⟩) l.length cp) b, str n] w fun e w' => e = .returned (getV n l) ∧ Below w.heap.size w w' := by
  have HA : Hid (∀ (j : Nat) (h : j < l.length), (∀ (k : Nat) (h : k < l.length), k < j → l[k].1 ≠ n) → l[j].1 = n → getV n l = .tuple #[str l[j].2, .bool true]) := fun j h h1 h2 => by
    show getV n l = _
    unfold getV
    rw [getL_at n l j h h1 h2]
  have HZ : Hid ((∀ (k : Nat) (h : k < l.length), l[k].1 ≠ n) → getV n l = .tuple #[str [], .bool false]) := fun h => by
    unfold getV
    rw [getL_none n l h]
  have H : Hid (∀ i (h : i < l.length), HdAt w g (o + i * 2) l[i]) := h
  clear h
  generalize getV n l = gv at *
  have k0 := Blk.new w #[str c, .slice (some ⟨g, o, none⟩) l.length cp, str b] 24
  have hb0 := below_new w (.cells #[str c, .slice (some ⟨g, o, none⟩) l.length cp, str b] 24)
  go_enter Tryd.func15, Tryd.ntmps15
  go_upto_region 1 with fail
  generalize w.alloc (.cells #[str c, .slice (some ⟨g, o, none⟩) l.length cp, str b] 24) = w1 at *
  have c1 : w1.cell? ⟨w.heap.size, 1, none⟩ = some (.slice (some ⟨g, o, none⟩) l.length cp) := k0.cell 1
  have hq : w.heap.size < w1.heap.size := k0.lt
  go_wp2_with fail
  go_loopw [10] (fun i w2 => ∃ j : Nat, j ≤ l.length ∧ i = .int .i64 j ∧ Below w1.heap.size w1 w2 ∧ Hid (∀ (k : Nat) (h : k < l.length), k < j → l[k].1 ≠ n)) (fun i _ => l.length - (RowKit.intOf i).toNat)
  case atStart => exact ⟨0, Nat.zero_le _, rfl, Below.refl _ _, fun k _ h => absurd h (Nat.not_lt_zero _)⟩
  case round =>
    obtain ⟨j, hj, rfl, hbr, HB⟩ := hrel
    have hbw := hb0.trans (hbr.mono (Nat.le_of_lt hq))
    have hwr := hbr.size
    by_cases hlt : j < l.length
    · obtain ⟨a0, a1⟩ := (H.out j hlt).on hbw
      have c2 : wr.cell? ⟨w.heap.size, 1, none⟩ = some (.slice (some ⟨g, o, none⟩) l.length cp) := by rw [hbr.cell (p := ⟨w.heap.size, 1, none⟩) hq]; exact c1
      have HY : Hid (l[j].1 ≠ n → (∀ (k : Nat) (h : k < l.length), k < j + 1 → l[k].1 ≠ n)) := fun h k hk hk2 => by
        rcases Nat.lt_or_ge k j with h3 | h3
        · exact HB.out k hk h3
        · have : k = j := by omega
          subst this; exact h
      have HA2 : Hid (l[j].1 = n → gv = .tuple #[str l[j].2, .bool true]) := HA.out j hlt HB.out
      obtain ⟨p, hp⟩ : ∃ p, p = l[j] := ⟨_, rfl⟩
      rw [← hp] at a0 a1 HY HA2
      obtain ⟨pn, pt⟩ := p
      dsimp only at a0 a1 HY HA2
      clear hp
      have hjz : (j : Int) < (l.length : Int) := by omega
      by_cases hn : pn = n
      · subst hn
        have hg := HA2.out rfl
        subst hg
        go_wp2
        go_ret2
        exact ⟨rfl, hbw⟩
      · have hnb : (pn == n) = false := by rw [beq_l]; simpa using hn
        go_wp2
        all_goals
          go_roundw
          case rel => exact ⟨j + 1, by omega, by go_num, hbr, HY.out hn⟩
          case measure => simp [RowKit.intOf]; omega
    · obtain rfl : j = l.length := by omega
      have hg := HZ.out (fun k hk => HB.out k hk hk)
      subst hg
      go_wp2
      go_ret2
      exact ⟨rfl, hbw⟩
set_option maxHeartbeats 1000000 in
theorem rget_nil (w : World) (c b n : Bs) (a : Option Addr) (cp : Nat) : Calls Tryd.prog 15 #[frV c (.slice a 0 cp) b, str n] w fun e w' => e = .returned (getV n []) ∧ Below w.heap.size w w' := by
  show Calls Tryd.prog 15 #[frV c (.slice a 0 cp) b, str n] w fun e w' => e = .returned (.tuple #[str [], .bool false]) ∧ Below w.heap.size w w'
  have hb0 := below_new w (.cells #[str c, .slice a 0 cp, str b] 24)
  go_enter Tryd.func15, Tryd.ntmps15
  go_wp2_with fail
  go_loopw [10] (fun i w2 => i = .int .i64 0 ∧ w2 = w.alloc (.cells #[str c, .slice a 0 cp, str b] 24)) (fun _ _ => 0)
  case atStart => exact ⟨rfl, rfl⟩
  case round =>
    obtain ⟨rfl, rfl⟩ := hrel
    go_wp2
    go_ret2
    exact ⟨rfl, hb0⟩
theorem rget_any (w : World) (c b n : Bs) (hv : Value) (l : List Hd) (hr : RdH w hv l) (hl : l.length ≤ 9223372036854775806) : Calls Tryd.prog 15 #[frV c hv b, str n] w fun e w' => e = .returned (getV n l) ∧ Below w.heap.size w w' := by
  rcases hr with ⟨⟨a, cp, rfl⟩, rfl⟩ | ⟨g, o, cp, rfl, _, h⟩
  · exact rget_nil w c b n a cp
  · exact rget_some w c b n l g o cp h hl
end Go.Proofs.YtfdbekfbbihdgaaDoor
