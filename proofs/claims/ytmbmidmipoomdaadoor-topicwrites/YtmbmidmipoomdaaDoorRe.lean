/- What the document's Match and Covers answer of any two texts; the law TopicMatches walked: it answers true of any two texts. Condition: Vars, what the library's variables hold when the call begins. -/
import Derived.Test.YtmbmidmipoomdaaDoorRd
import Derived.Test.YtmbmidmipoomdaaDoorWd
namespace Go.Proofs.YtmbmidmipoomdaaDoor
open Go.RowKit Go.Lib
set_option maxRecDepth 10000

theorem below_drawn (w : World) (k : Nat) : Below w.heap.size w (w.drewN k) := by
  induction k with
  | zero => exact Below.refl _ _
  | succ k ih => exact ih.drew

set_option maxHeartbeats 1000000 in
theorem rcover_any (w : World) (a b : List UInt8) : Calls Tryd.prog 17 #[str a, str b] w fun e w' => e = .returned (.bool (covers a b)) ∧ Below w.heap.size w w' := by
  have hp := rpattern_any w a
  cases ha : pat a with
  | false =>
    have e : Hid (covers a b = false) := by show covers a b = false; unfold covers; rw [ha]; rfl
    rw [ha] at hp
    generalize covers a b = r at *
    go_enter Tryd.func17, Tryd.ntmps17
    go_wp2_with (go_at_call 13; refine hp.mono ?_; rintro e w' ⟨rfl, hb⟩)
    go_ret
    exact ⟨ret_b e.out.symm, hb⟩
  | true =>
    rw [ha] at hp
    cases hb : pat b with
    | false =>
      have e : Hid (covers a b = false) := by show covers a b = false; unfold covers; rw [hb]; simp
      generalize covers a b = r at *
      go_enter Tryd.func17, Tryd.ntmps17
      go_wp2_with fail
      refine hp.mono ?_
      rintro e1 w1 ⟨rfl, hb1⟩
      have hp2 := rpattern_any w1 b
      rw [hb] at hp2
      go_wp2_with fail
      refine hp2.mono ?_
      rintro e2 w2 ⟨rfl, hb2⟩
      go_wp2
      go_ret
      exact ⟨ret_b e.out.symm, nxt hb1 hb2⟩
    | true =>
      have e : Hid (covers a b = cov (wordsL a) (wordsL b)) := by show covers a b = _; unfold covers; rw [ha, hb]; simp
      have h1 := pat_nums ha
      have h2 := pat_nums hb
      generalize covers a b = r at *
      go_enter Tryd.func17, Tryd.ntmps17
      go_wp2_with fail
      refine hp.mono ?_
      rintro e1 w1 ⟨rfl, hb1⟩
      have hp2 := rpattern_any w1 b
      rw [hb] at hp2
      go_wp2_with fail
      refine hp2.mono ?_
      rintro e2 w2 ⟨rfl, hb2⟩
      have hs := words_any w2 a (by omega)
      go_wp2_with fail
      refine hs.mono ?_
      rintro e3 w3 ⟨b3, c3, rfl, hr3, hb3, hc3⟩
      have hs2 := words_any w3 b (by omega)
      go_wp2_with fail
      refine hs2.mono ?_
      rintro e4 w4 ⟨b4, c4, rfl, hr4, hb4, hc4⟩
      have hc := over_any (wordsL a) (wordsL b) w4 b3 0 c3 b4 0 c4 (hr3.below hb4 hr3.1) hr4 hc3 hc4
      clear hr3 hr4
      generalize cov (wordsL a) (wordsL b) = q at *
      go_wp2_with fail
      refine hc.mono ?_
      rintro e5 w5 ⟨rfl, k5, rfl⟩
      go_wp2
      go_ret
      exact ⟨ret_b e.out.symm, nxt hb1 (nxt hb2 (nxt hb3 (nxt hb4 (below_drawn _ _))))⟩

set_option maxHeartbeats 1000000 in
theorem rmatch_any (w : World) (a b : List UInt8) : Calls Tryd.prog 15 #[str a, str b] w fun e w' => e = .returned (.bool (mat a b)) ∧ Below w.heap.size w w' := by
  have hp := rpattern_any w a
  cases ha : pat a with
  | false =>
    have e : Hid (mat a b = false) := by show mat a b = false; unfold mat covers; rw [ha]; simp
    rw [ha] at hp
    generalize mat a b = r at *
    go_enter Tryd.func15, Tryd.ntmps15
    go_wp2_with (go_at_call 13; refine hp.mono ?_; rintro e w' ⟨rfl, hb⟩)
    go_ret
    exact ⟨ret_b e.out.symm, hb⟩
  | true =>
    rw [ha] at hp
    cases hb : good b with
    | false =>
      have e : Hid (mat a b = false) := by show mat a b = false; unfold mat; rw [hb]; simp
      generalize mat a b = r at *
      go_enter Tryd.func15, Tryd.ntmps15
      go_wp2_with fail
      refine hp.mono ?_
      rintro e1 w1 ⟨rfl, hb1⟩
      have hp2 := rgood_any w1 b
      rw [hb] at hp2
      go_wp2_with fail
      refine hp2.mono ?_
      rintro e2 w2 ⟨rfl, hb2⟩
      go_wp2
      go_ret
      exact ⟨ret_b e.out.symm, nxt hb1 hb2⟩
    | true =>
      have e : Hid (mat a b = wit (wordsL a) (wordsL b)) := by show mat a b = _; rw [← mat_ref, ha, hb]; simp
      have h1 := pat_nums ha
      have h2 := good_nums hb
      generalize mat a b = r at *
      go_enter Tryd.func15, Tryd.ntmps15
      go_wp2_with fail
      refine hp.mono ?_
      rintro e1 w1 ⟨rfl, hb1⟩
      have hp2 := rgood_any w1 b
      rw [hb] at hp2
      go_wp2_with fail
      refine hp2.mono ?_
      rintro e2 w2 ⟨rfl, hb2⟩
      have hs := words_any w2 a (by omega)
      go_wp2_with fail
      refine hs.mono ?_
      rintro e3 w3 ⟨b3, c3, rfl, hr3, hb3, hc3⟩
      have hs2 := words_any w3 b (by omega)
      go_wp2_with fail
      refine hs2.mono ?_
      rintro e4 w4 ⟨b4, c4, rfl, hr4, hb4, hc4⟩
      have hc := within_any (wordsL a) (wordsL b) w4 b3 0 c3 b4 0 c4 (hr3.below hb4 hr3.1) hr4 hc3 hc4
      clear hr3 hr4
      generalize wit (wordsL a) (wordsL b) = q at *
      go_wp2_with fail
      refine hc.mono ?_
      rintro e5 w5 ⟨rfl, k5, rfl⟩
      go_wp2
      go_ret
      exact ⟨ret_b e.out.symm, nxt hb1 (nxt hb2 (nxt hb3 (nxt hb4 (below_drawn _ _))))⟩

theorem says11 (l : List UInt8) : Says 11 #[str l] (.bool (good l)) := says_of fun W _ => rgood_any W l
theorem says13 (l : List UInt8) : Says 13 #[str l] (.bool (pat l)) := says_of fun W _ => rpattern_any W l
theorem says15 (a b : List UInt8) : Says 15 #[str a, str b] (.bool (mat a b)) := says_of fun W _ => rmatch_any W a b
theorem says17 (a b : List UInt8) : Says 17 #[str a, str b] (.bool (covers a b)) := says_of fun W _ => rcover_any W a b

theorem matches_law (w : World) (hv : Vars w) (a b : List UInt8) : Calls Tryd.prog 3 #[str a, str b] w fun e w' => e = .returned (.bool true) ∧ Below w.heap.size w w' := by
  have hs0 : St w w := ⟨hv, Below.refl _ _⟩
  have c9 := says9
  have c1 := says10 a
  have c2 := says11 a
  have c3 := says12 a
  have c4 := says13 a
  have c5 := says14 a b
  have c6 := says15 a b
  have c7 := says16 a b
  have c8 := says17 a b
  generalize good a = g at *
  generalize pat a = p at *
  generalize mat a b = m at *
  generalize covers a b = c at *
  go_enter Tryd.func3, Tryd.ntmps3
  go_wp2_with fail
  refine (c9 w _ hs0).mono ?_
  rintro e0 w0 ⟨rfl, hs1⟩
  go_wp2_with fail
  refine (c1 w _ hs1).mono ?_
  rintro e1 w1 ⟨rfl, hs1⟩
  go_wp2_with fail
  refine (c2 w _ hs1).mono ?_
  rintro e2 w2 ⟨rfl, hs2⟩
  go_wp2_with fail
  refine (c3 w _ hs2).mono ?_
  rintro e3 w3 ⟨rfl, hs3⟩
  go_wp2_with fail
  refine (c4 w _ hs3).mono ?_
  rintro e4 w4 ⟨rfl, hs4⟩
  go_wp2_with fail
  refine (c5 w _ hs4).mono ?_
  rintro e5 w5 ⟨rfl, hs5⟩
  go_wp2_with fail
  refine (c6 w _ hs5).mono ?_
  rintro e6 w6 ⟨rfl, hs6⟩
  go_wp2_with fail
  refine (c7 w _ hs6).mono ?_
  rintro e7 w7 ⟨rfl, hs7⟩
  go_wp2_with fail
  refine (c8 w _ hs7).mono ?_
  rintro e8 w8 ⟨rfl, hs8⟩
  go_wp2
  go_ret
  exact ⟨rfl, hs8.b⟩
end Go.Proofs.YtmbmidmipoomdaaDoor
