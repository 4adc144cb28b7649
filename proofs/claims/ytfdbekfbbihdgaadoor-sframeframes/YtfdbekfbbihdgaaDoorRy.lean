
/- The document's size. Conditions: those that each row states. -/
import Derived.Test.YtfdbekfbbihdgaaDoorPy
import Derived.Test.YtfdbekfbbihdgaaDoorRz
namespace Go.Proofs.YtfdbekfbbihdgaaDoor
open Go.RowKit Go.Lib
set_option maxRecDepth 100000
set_option linter.unusedSimpArgs false

theorem ret_int {n m : Int} (h : n = m) : Ending.returned (.int .i64 n) = Ending.returned (.int .i64 m) := by rw [h]
set_option maxHeartbeats 4000000 in
theorem rsize_any (w : World) (c b : Bs) (hv : Value) (H : List Hd) (hr : RdH w hv H) (hH : H.length ≤ 1000000000) (hm : ∀ h ∈ H, h.1.length + h.2.length ≤ 1000000000) :
    Calls Tryd.prog 21 #[frV c hv b] w fun e w' => e = .returned (.int .i64 (sizeI H)) ∧ Below w.heap.size w w' := by
  obtain ⟨ha, hn, hc, rfl⟩ : ∃ a n c, hv = .slice a n c := by
    rcases hr with ⟨⟨a, cp, rfl⟩, rfl⟩ | ⟨g, o, cp, rfl, _⟩
    · exact ⟨_, _, _, rfl⟩
    · exact ⟨_, _, _, rfl⟩
  have b0 := below_new w (.cells #[str c, .slice ha hn hc, str b] 24)
  have k0 := Blk.new w #[str c, .slice ha hn hc, str b] 24
  have s0 : (w.alloc (.cells #[str c, .slice ha hn hc, str b] 24)).heap.size = w.heap.size + 1 := by simp
  have hr0 := hr.on b0
  obtain ⟨z, hz⟩ : ∃ z, Hid (sizeI H = z) := ⟨_, (rfl : sizeI H = _)⟩
  rw [hz.out]
  go_enter Tryd.func21, Tryd.ntmps21
  go_upto_region 1 with fail
  generalize w.alloc (.cells #[str c, .slice ha hn hc, str b] 24) = w1 at *
  have G := rget_any w1 c b CL _ H hr0 (by omega)
  unfold getV at G
  have d0 := k0.cell 0
  have d1 := k0.cell 1
  have d2 := k0.cell 2
  simp only [List.getElem?_toArray, List.getElem?_cons_zero, List.getElem?_cons_succ] at d0 d1 d2
  have hz2 : sizeI H = z := hz.out
  unfold sizeI at hz2
  cases hg : getL CL H with
  | none =>
    rw [hg] at G hz2
    simp only [] at G hz2
    subst hz2
    clear hz hg
    go_wp2_with fail
    refine G.mono ?_
    rintro e w2 ⟨rfl, b2⟩
    go_wp2
    go_ret
    exact ⟨rfl, b0.trans (b2.mono (by omega))⟩
  | some t =>
    have htl : t.length ≤ 1000000000 := by
      have key : ∀ (H : List Hd), (∀ h ∈ H, h.1.length + h.2.length ≤ 1000000000) → getL CL H = some t → t.length ≤ 1000000000 := by
        intro H
        induction H with
        | nil => intro _ h; cases h
        | cons x H ih =>
          intro hm h
          rw [getL] at h
          split at h
          · injection h with h
            subst h
            have := hm x (by simp)
            omega
          · exact ih (fun y hy => hm y (by simp [hy])) h
      exact key H hm hg
    rw [hg] at G hz2
    simp only [] at G hz2
    have HZ : Hid (lenI t = z) := hz2
    clear hz hz2 hg hm
    go_wp2_with fail
    refine G.mono ?_
    rintro e w2 ⟨rfl, b2⟩
    have B2 := b0.trans (b2.mono (by omega))
    clear G d0 d1 d2 k0 hr0 b2 b0
    by_cases l1 : t.length < 1
    · have q1 : decide ((t.length : Int) < 1) = true := decide_eq_true (by omega)
      have hzz : Hid (z = -2) := by show _ = _; rw [← HZ.out]; exact lenI_bad (.inl l1)
      go_wp2
      go_ret
      exact ⟨ret_int hzz.out.symm, B2⟩
    have q1 : decide ((t.length : Int) < 1) = false := decide_eq_false (by omega)
    by_cases l4 : 4 < t.length
    · have q2 : decide ((4 : Int) < (t.length : Int)) = true := decide_eq_true (by omega)
      have hzz : Hid (z = -2) := by show _ = _; rw [← HZ.out]; exact lenI_bad (.inr (.inl l4))
      go_wp2
      go_ret
      exact ⟨ret_int hzz.out.symm, B2⟩
    have q2 : decide ((4 : Int) < (t.length : Int)) = false := decide_eq_false (by omega)
    have g0 := get_str t 0
    have ht0 : (0 : Int) < (t.length : Int) := by omega
    by_cases hlead : t.getD 0 0 = 48 ∧ 1 < t.length
    · have q3 : decide ((1 : Int) < (t.length : Int)) = true := decide_eq_true (by omega)
      have hzz : Hid (z = -2) := by show _ = _; rw [← HZ.out]; exact lenI_bad (.inr (.inr hlead))
      rw [hlead.1] at g0
      clear hlead
      go_wp2
      go_ret
      exact ⟨ret_int hzz.out.symm, B2⟩
    have hlead2 : Hid (t.getD 0 0 ≠ 48 ∨ t.length = 1) := by
      show _ ∨ _
      by_cases h : t.getD 0 0 = 48
      · right
        have : ¬ 1 < t.length := fun h2 => hlead ⟨h, h2⟩
        omega
      · exact .inl h
    have l4' : t.length ≤ 4 := by omega
    have key : Hid (∀ m, decFrom 0 t = some m → z = if 1024 < m then -2 else (m : Int)) := fun m hm => by
      rw [← HZ.out]; exact lenI_num (by omega) hlead2.out hm
    have keyN : Hid (∀ c ∈ t, digB c = false → z = -2) := fun c hc hd => by
      rw [← HZ.out]; exact lenI_nodigit hc hd
    have fin : ∀ {Q : Prop}, ((((t.getD 0 0).toNat : Int) == 48) = false ∨ ((((t.getD 0 0).toNat : Int) == 48) = true ∧ decide ((1 : Int) < (t.length : Int)) = false) → Q) → Q := fun k => by
      refine k ?_
      rcases hlead2.out with h | h
      · left
        rw [beq_eq_false_iff_ne]; intro e; exact h (UInt8.toNat.inj (show (t.getD 0 0).toNat = 48 by omega))
      · by_cases h2 : t.getD 0 0 = 48
        · right; exact ⟨by rw [h2]; rfl, decide_eq_false (by omega)⟩
        · left
          rw [beq_eq_false_iff_ne]; intro e; exact h2 (UInt8.toNat.inj (show (t.getD 0 0).toNat = 48 by omega))
    clear hlead HZ
    generalize t.getD 0 0 = y0 at g0 fin
    refine fin fun hcase => ?_
    clear fin
    rcases hcase with q3 | ⟨q3, q4⟩
    all_goals
      go_wp2_with fail
      clear g0 q3 ht0 q1 q2 l1 l4
      go_loop [5, 6] (fun n i => ∃ (j m : Nat), j ≤ t.length ∧ i = .int .i64 j ∧ n = .int .i64 m ∧ m < 10 ^ j ∧ Hid (decFrom 0 (t.take j) = some m)) (fun _ i => t.length - (RowKit.intOf i).toNat)
      case atStart => exact ⟨0, 0, Nat.zero_le _, rfl, rfl, by decide, (rfl : decFrom 0 (t.take 0) = some 0)⟩
      case round =>
        obtain ⟨j, m, hj, rfl, rfl, hmj, HB⟩ := hrel
        have hm4 : m < 10000 := Nat.lt_of_lt_of_le hmj (Nat.le_trans (Nat.pow_le_pow_right (by decide) (Nat.le_trans hj l4')) (by decide))
        by_cases hlt : j < t.length
        · have gk := get_str t j
          have hjz : (j : Int) < (t.length : Int) := by omega
          have hgj : t.getD j 0 = t[j] := by simp [List.getD_eq_getElem?_getD, hlt]
          have hq : t[j]? = some t[j] := List.getElem?_eq_getElem hlt
          rw [hgj] at gk
          have hmem := List.getElem_mem hlt
          have HT : Hid (∀ d, digitVal t[j] = some d → decFrom 0 (t.take (j + 1)) = some (m * 10 + d)) := fun d hd => decFrom_take t j 0 m t[j] d HB.out hq hd
          have KN : Hid (digB t[j] = false → z = -2) := keyN.out _ hmem
          generalize t[j] = y at *
          clear hgj hq hmem
          by_cases h1 : y.toNat < 48
          · have hzz : Hid (z = -2) := KN.out (by unfold digB; simp; omega)
            have q5 : decide ((y.toNat : Int) < 48) = true := decide_eq_true (by omega)
            go_wp2
            go_ret
            exact ⟨ret_int hzz.out.symm, B2⟩
          have q5 : decide ((y.toNat : Int) < 48) = false := decide_eq_false (by omega)
          by_cases h2 : 57 < y.toNat
          · have hzz : Hid (z = -2) := KN.out (by unfold digB; simp; omega)
            have q6 : decide ((57 : Int) < (y.toNat : Int)) = true := decide_eq_true (by omega)
            go_wp2
            go_ret
            exact ⟨ret_int hzz.out.symm, B2⟩
          have q6 : decide ((57 : Int) < (y.toNat : Int)) = false := decide_eq_false (by omega)
          have HB2 : Hid (decFrom 0 (t.take (j + 1)) = some (m * 10 + (y.toNat - 48))) := HT.out _ (digB_val (by unfold digB; simp; omega))
          have hp : m * 10 + (y.toNat - 48) < 10 ^ (j + 1) := by rw [Nat.pow_succ]; omega
          have hy1 : 48 ≤ y.toNat := by omega
          have hy2 : y.toNat ≤ 57 := by omega
          clear HT KN
          go_wp2
          refine ⟨⟨j + 1, m * 10 + (y.toNat - 48), by omega, by simp, ?_, hp, HB2⟩, ?_⟩
          · congr 1; omega
          · simp [RowKit.intOf]; omega
        · obtain rfl : j = t.length := by omega
          have hk := HB.out
          rw [List.take_length] at hk
          have hzz : Hid (z = if 1024 < m then -2 else (m : Int)) := key.out m hk
          clear hk
          by_cases h9 : 1024 < m
          · have q5 : decide ((1024 : Int) < (m : Int)) = true := decide_eq_true (by omega)
            go_wp2
            go_ret
            exact ⟨ret_int (by rw [hzz.out, if_pos h9]), B2⟩
          · have q5 : decide ((1024 : Int) < (m : Int)) = false := decide_eq_false (by omega)
            go_wp2
            go_ret
            exact ⟨ret_int (by rw [hzz.out, if_neg h9]), B2⟩
end Go.Proofs.YtfdbekfbbihdgaaDoor
