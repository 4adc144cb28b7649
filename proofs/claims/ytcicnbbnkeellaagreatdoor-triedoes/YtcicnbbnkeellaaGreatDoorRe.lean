/- What the document's Match and Covers answer of any two texts; the law TopicMatches walked: it answers true of any two texts. Condition: Vars, what the library's variables hold when the call begins. -/
import Derived.Test.YtcicnbbnkeellaaGreatDoorRc
namespace Go.Proofs.YtcicnbbnkeellaaGreatDoor.To
open Go.RowKit Go.Lib
set_option maxRecDepth 10000

theorem nxt {a b c : World} (h1 : Below a.heap.size a b) (h2 : Below b.heap.size b c) : Below a.heap.size a c := h1.trans (h2.mono h1.size)
theorem below_drawn (w : World) (k : Nat) : Below w.heap.size w (w.drewN k) := by
  induction k with
  | zero => exact Below.refl _ _
  | succ k ih => exact ih.drew

set_option maxHeartbeats 1000000 in
theorem rmatch_any (w : World) (a b : List UInt8) : Calls Tryz.prog 37 #[str a, str b] w fun e w' => e = .returned (.bool (mat a b)) ∧ Below w.heap.size w w' := by
  have hp := rpattern_any w a
  cases ha : pat a with
  | false =>
    have e : Hid (mat a b = false) := by show mat a b = false; unfold mat covers; rw [ha]; simp
    rw [ha] at hp
    generalize mat a b = r at *
    go_enter Tryz.func37, Tryz.ntmps37
    go_wp2_with (go_at_call 26; refine hp.mono ?_; rintro e w' ⟨rfl, hb⟩)
    go_ret
    exact ⟨ret_b e.out.symm, hb⟩
  | true =>
    rw [ha] at hp
    cases hb : good b with
    | false =>
      have e : Hid (mat a b = false) := by show mat a b = false; unfold mat; rw [hb]; simp
      generalize mat a b = r at *
      go_enter Tryz.func37, Tryz.ntmps37
      go_wp2_with fail
      refine hp.mono ?_
      rintro e1 w1 ⟨rfl, hb1⟩
      have hp2 := rgood_any w1 b
      rw [hb] at hp2
      go_wp2_with fail
      refine hp2.mono ?_
      rintro e2 w2 ⟨rfl, hb2⟩
      go_wp2
      go_ret
      exact ⟨ret_b e.out.symm, nxt hb1 hb2⟩
    | true =>
      have e : Hid (mat a b = wit (wordsL a) (wordsL b)) := by show mat a b = _; rw [← mat_ref, ha, hb]; simp
      have h1 := pat_nums ha
      have h2 := good_nums hb
      generalize mat a b = r at *
      go_enter Tryz.func37, Tryz.ntmps37
      go_wp2_with fail
      refine hp.mono ?_
      rintro e1 w1 ⟨rfl, hb1⟩
      have hp2 := rgood_any w1 b
      rw [hb] at hp2
      go_wp2_with fail
      refine hp2.mono ?_
      rintro e2 w2 ⟨rfl, hb2⟩
      have hs := words_any w2 a (by omega)
      go_wp2_with fail
      refine hs.mono ?_
      rintro e3 w3 ⟨b3, c3, rfl, hr3, hb3, hc3⟩
      have hs2 := words_any w3 b (by omega)
      go_wp2_with fail
      refine hs2.mono ?_
      rintro e4 w4 ⟨b4, c4, rfl, hr4, hb4, hc4⟩
      have hc := within_any (wordsL a) (wordsL b) w4 b3 0 c3 b4 0 c4 (hr3.below hb4 hr3.1) hr4 hc3 hc4
      clear hr3 hr4
      generalize wit (wordsL a) (wordsL b) = q at *
      go_wp2_with fail
      refine hc.mono ?_
      rintro e5 w5 ⟨rfl, k5, rfl⟩
      go_wp2
      go_ret
      exact ⟨ret_b e.out.symm, nxt hb1 (nxt hb2 (nxt hb3 (nxt hb4 (below_drawn _ _))))⟩

end Go.Proofs.YtcicnbbnkeellaaGreatDoor.To
