
/- The law of SframeOnce: it answers true at any two texts. Conditions: those that each row states. -/
import Derived.Test.YtfdbekfbbihdgaaDoorSp
namespace Go.Proofs.YtfdbekfbbihdgaaDoor
open Go.RowKit Go.Lib
set_option maxRecDepth 100000
set_option linter.unusedSimpArgs false

theorem app_str (s t : Bs) : (⟨s.toArray⟩ : ByteArray) ++ ⟨t.toArray⟩ = ⟨(s ++ t).toArray⟩ := by
  apply ByteArray.ext
  simp
theorem readL_hs {s : Bs} {f : Fr} {r : Bs} (h : readL s = .ok (f, r)) : f.hs.length ≤ 32 := by
  unfold readL at h
  split at h
  · cases h
  · cases h
  · split at h
    · rename_i h32
      split at h
      · cases h
      · rename_i hH
        split at h
        · cases h
        · injection h with h
          injection h with h _
          subst h
          have := (hdrsL_mem hH).1
          dsimp only
          omega
    · cases h
theorem nextL_hs (s : Bs) : (nextL s).1.hs.length ≤ 32 := by
  rcases nextL_cases s with ⟨f, r, h1, h2⟩ | ⟨_, _, h2⟩ | ⟨_, h2⟩
  · rw [h2]; exact readL_hs h1
  · rw [h2]; exact Nat.zero_le _
  · rw [h2]; exact Nat.zero_le _
set_option maxHeartbeats 4000000 in
theorem once_law (w : World) (s t : Bs) (hV : Vars w.heap.size w) : Calls Tryd.prog 5 #[str s, str t] w fun e w' => e = .returned (.bool true) ∧ Below w.heap.size w w' := by
  have W := wakes_any w hV
  have happ := app_str s t
  by_cases h1 : 32768 < s.length
  · have hd : decide ((32768 : Int) < (s.length : Int)) = true := decide_eq_true (by omega)
    go_enter Tryd.func5, Tryd.ntmps5
    go_wp2_with fail
    refine W.mono ?_
    rintro e w1 ⟨rfl, b1⟩
    go_wp2
    go_ret
    exact ⟨rfl, b1⟩
  have hd1 : decide ((32768 : Int) < (s.length : Int)) = false := decide_eq_false (by omega)
  by_cases h2 : 32768 < t.length
  · have hd : decide ((32768 : Int) < (t.length : Int)) = true := decide_eq_true (by omega)
    go_enter Tryd.func5, Tryd.ntmps5
    go_wp2_with fail
    refine W.mono ?_
    rintro e w1 ⟨rfl, b1⟩
    go_wp2
    go_ret
    exact ⟨rfl, b1⟩
  have hd2 : decide ((32768 : Int) < (t.length : Int)) = false := decide_eq_false (by omega)
  have NX := fun w (hV : Vars w.heap.size w) => next_any w s (by omega) hV
  have NY := fun w (hV : Vars w.heap.size w) => next_any w (s ++ t) (by simp; omega) hV
  unfold NextP at NX NY
  have hsl : s.length ≤ 32768 := by omega
  have htl : t.length ≤ 32768 := by omega
  by_cases h41 : (nextL s).2.2 = 41
  · obtain ⟨g1, g2, g3⟩ := nextL_more h41
    have hle := blanksN_le s
    have hen := blanksN_ends s
    have g1 : (nextL s).1 = ⟨[], [], []⟩ := g1
    rw [g1, g2, h41] at NX
    clear NY h41 g1 g2 h1 h2
    generalize blanksN s = n at *
    have HE : Hid (∀ i, i < n → s.getD i 0 = 10 ∨ s.getD i 0 = 13) := hen
    have HL : Hid (n ≤ s.length ∧ s.length < 16384 + n) := ⟨hle, g3⟩
    have hsub : decide ((s.length : Int) - (n : Int) < 16384) = true := decide_eq_true (by omega)
    have hleq : decide ((n : Int) ≤ (s.length : Int)) = true := decide_eq_true (by omega)
    have hwr : wrap64 ((s.length : Int) - (n : Int)) = (s.length : Int) - (n : Int) := by unfold wrap64; omega
    clear hen
    go_enter Tryd.func5, Tryd.ntmps5
    go_wp2_with fail
    refine W.mono ?_
    rintro e w1 ⟨rfl, b1⟩
    have NX1 := NX w1 ((hV.on b1).mono b1.size)
    clear NX W
    go_wp2_with fail
    refine NX1.mono ?_
    rintro e w2 ⟨b2, hv, rfl, ho⟩
    obtain ⟨ha, hn, hc, rfl⟩ := ho.shape
    have B2 := b1.trans (b2.mono b1.size)
    have k3 := Blk.new w2 #[str [], .slice ha hn hc, str []] 24
    have b3 := below_new w2 (.cells #[str [], .slice ha hn hc, str []] 24)
    have B3 := B2.trans (b3.mono B2.size)
    clear NX1 ho b2 b3
    go_upto_region 6 with fail
    generalize w2.alloc (.cells #[str [], .slice ha hn hc, str []] 24) = w3 at *
    have d0 := k3.cell 0
    simp only [List.getElem?_toArray, List.getElem?_cons_zero, List.getElem?_cons_succ] at d0
    go_wp2_with fail
    go_loop [8] (fun i => ∃ k : Nat, k ≤ n ∧ i = .int .i64 k) (fun i => n - (RowKit.intOf i).toNat)
    case atStart => exact ⟨0, Nat.zero_le _, rfl⟩
    case round =>
      obtain ⟨k, hk, rfl⟩ := hrel
      by_cases hlt : k < n
      · have gk := get_str s k
        have hkn : (k : Int) < (n : Int) := by omega
        have hks : (k : Int) < (s.length : Int) := by omega
        rcases HE.out k hlt with hc0 | hc0
        · rw [hc0] at gk
          clear hc0 hsub hleq hwr hle
          go_wp2
          all_goals
            go_round
            case rel => exact ⟨k + 1, by omega, by go_num⟩
            case measure => simp [RowKit.intOf]; omega
        · rw [hc0] at gk
          clear hc0 hsub hleq hwr hle
          go_wp2
          all_goals
            go_round
            case rel => exact ⟨k + 1, by omega, by go_num⟩
            case measure => simp [RowKit.intOf]; omega
      · obtain rfl : k = n := by omega
        go_wp2
        go_ret
        exact ⟨rfl, B3⟩
  · obtain ⟨g1, g2, g3⟩ := nextL_once s t h41
    have hfh := nextL_hs s
    rw [g1] at NY
    clear g1 h1 h2
    generalize nextL s = N at *
    obtain ⟨⟨fc, fh, fb⟩, n, ee⟩ := N
    dsimp only at NX NY g2 g3 h41 hfh
    have hne : (ee == 41) = false := by rw [beq_eq_false_iff_ne]; exact h41
    have hleq : decide ((n : Int) ≤ (s.length : Int)) = true := decide_eq_true (by omega)
    have HQ : Hid (decide (n ≤ s.length) = true) := decide_eq_true g3
    have hiff : (ee == 0) = decide ((0 : Int) < (n : Int)) := by
      rw [Bool.eq_iff_iff, beq_iff_eq, decide_eq_true_iff, g2]; omega
    generalize hbz : decide ((0 : Int) < (n : Int)) = bz at *
    have hbz2 : decide (0 < n) = bz := by rw [← hbz]; exact decide_eq_decide.2 (by omega)
    clear g2 g3 h41
    go_enter Tryd.func5, Tryd.ntmps5
    go_wp2_with fail
    refine W.mono ?_
    rintro e w1 ⟨rfl, b1⟩
    have NX1 := NX w1 ((hV.on b1).mono b1.size)
    clear NX W
    go_wp2_with fail
    refine NX1.mono ?_
    rintro e w2 ⟨b2, hv, rfl, ho⟩
    obtain ⟨ha, hn, hc, rfl⟩ := ho.shape
    have B2 := b1.trans (b2.mono b1.size)
    have k3 := Blk.new w2 #[str fc, .slice ha hn hc, str fb] 24
    have b3 := below_new w2 (.cells #[str fc, .slice ha hn hc, str fb] 24)
    have B3 := B2.trans (b3.mono B2.size)
    have hr3 := ho.rd.on b3
    clear NX1 ho b2 b3
    go_upto_region 6 with fail
    generalize w2.alloc (.cells #[str fc, .slice ha hn hc, str fb] 24) = w3 at *
    have NY1 := NY w3 ((hV.on B3).mono B3.size)
    clear NY
    go_wp2_with fail
    refine NY1.mono ?_
    rintro e w4 ⟨b4, hv', rfl, ho'⟩
    obtain ⟨ha', hn', hc', rfl⟩ := ho'.shape
    have B4 := B3.trans (b4.mono B3.size)
    have k4 := (k3.on b4).alloc (.cells #[str fc, .slice ha' hn' hc', str fb] 24)
    have k4' := Blk.new w4 #[str fc, .slice ha' hn' hc', str fb] 24
    have b5 := below_new w4 (.cells #[str fc, .slice ha' hn' hc', str fb] 24)
    have B5 := B4.trans (b5.mono B4.size)
    have hr5 := (hr3.on b4).on b5
    have hr5' := ho'.rd.on b5
    clear NY1 ho' b4 b5 k3 hr3
    go_upto_region 14 with fail
    generalize w4.alloc (.cells #[str fc, .slice ha' hn' hc', str fb] 24) = w5 at *
    have S := same_any w5 fc fb fc fb _ _ fh fh hr5 hr5' (by omega)
    have e1 : sameB fc fb fh fc fb fh = true := by unfold sameB; simp
    rw [e1] at S
    have d0 := k4.cell 0
    have d1 := k4.cell 1
    have d2 := k4.cell 2
    have d3 := k4'.cell 0
    have d4 := k4'.cell 1
    have d5 := k4'.cell 2
    simp only [List.getElem?_toArray, List.getElem?_cons_zero, List.getElem?_cons_succ] at d0 d1 d2 d3 d4 d5
    go_wp2_with fail
    refine S.mono ?_
    rintro e w6 ⟨rfl, b6⟩
    go_wp2
    go_ret
    refine ⟨?_, B5.trans (b6.mono B5.size)⟩
    show Ending.returned (.bool (decide (n ≤ s.length))) = _
    rw [HQ.out]
end Go.Proofs.YtfdbekfbbihdgaaDoor
