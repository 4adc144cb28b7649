/- The law TopicBack walked: it answers true of any text. Condition: Vars, what the library's variables hold when the call begins. -/
import Derived.Test.YtmbmidmipoomdaaDoorWd
namespace Go.Proofs.YtmbmidmipoomdaaDoor
open Go.RowKit Go.Lib

theorem says18_ok (l : List UInt8) (h : pat l = true) : Says 18 #[str l] (.tuple #[str (l.map turnB), .int .i64 0]) := says_of fun W hW => slashes_ok W hW l h
theorem says18_bad (l : List UInt8) (h : pat l = false) : Says 18 #[str l] (.tuple #[str [], .int .i64 30]) := says_of fun W hW => slashes_bad W hW l h
theorem says20_ok (l : List UInt8) (hl : l.length < 35184372088832) (h : pat (l.map turnB) = true) : Says 20 #[str l] (.tuple #[str (l.map turnB), .int .i64 0]) := says_of fun W hW => dots_ok W hW l hl h
theorem says20_bad (l : List UInt8) (hl : l.length < 35184372088832) (h : pat (l.map turnB) = false) : Says 20 #[str l] (.tuple #[str [], .int .i64 30]) := says_of fun W hW => dots_bad W hW l hl h
theorem says24 (q : Bool) (l : List UInt8) (hl : l.length ≤ 8388608) : Says 24 #[.bool q, str l] (str (roadP q ++ l)) := says_of fun W _ => (place_any W q l hl).mono fun _ _ ⟨he, hw⟩ => ⟨he, hw ▸ Below.refl _ _⟩
theorem says22 (l : List UInt8) : Says 22 #[str l] (.tuple #[.bool (findL l).1, str (findL l).2.1, .int .i64 (findL l).2.2]) := says_of fun W hW => find_any W hW l

theorem find_place (l : List UInt8) (h : pat l = true) : findL (tP ++ l) = (false, l, 0) := by
  have h1 : qP.isPrefixOf (tP ++ l) = false := rfl
  have h2 : tP.isPrefixOf (tP ++ l) = true := by simp [tP, List.isPrefixOf]
  have h3 : (tP ++ l).drop 7 = l := rfl
  unfold findL
  rw [h1, h2, h3, h]
  rfl
theorem prefix_drop (p l : List UInt8) (h : p.isPrefixOf l = true) : p ++ l.drop p.length = l := by
  rw [List.isPrefixOf_iff_prefix] at h
  obtain ⟨t, rfl⟩ := h
  simp
theorem place_find (l : List UInt8) : ((findL l).2.2 = 0 ∧ roadP (findL l).1 ++ (findL l).2.1 = l ∧ (findL l).2.1.length ≤ l.length) ∨ (findL l).2.2 = 30 := by
  unfold findL
  cases h1 : (qP.isPrefixOf l && isW (l.drop 7)) with
  | true =>
    rw [Bool.and_eq_true] at h1
    refine .inl ⟨rfl, ?_, ?_⟩
    · exact prefix_drop qP l h1.1
    · simp
  | false =>
    cases h2 : (tP.isPrefixOf l && pat (l.drop 7)) with
    | true =>
      rw [Bool.and_eq_true] at h2
      refine .inl ⟨rfl, ?_, ?_⟩
      · exact prefix_drop tP l h2.1
      · simp
    | false => exact .inr rfl

set_option maxHeartbeats 4000000 in
set_option maxRecDepth 10000 in
theorem back_law (w : World) (hv : Vars w) (l : List UInt8) : Calls Tryd.prog 6 #[str l] w fun e w' => e = .returned (.bool true) ∧ Below w.heap.size w w' := by
  have hs0 : St w w := ⟨hv, Below.refl _ _⟩
  have c9 := says9
  by_cases hl : (l.length : Int) > 4096
  · go_enter Tryd.func6, Tryd.ntmps6
    go_wp2_with (go_at_call 9; refine (c9 w _ hs0).mono ?_; rintro e w' ⟨rfl, hs⟩)
    go_ret
    exact ⟨rfl, hs.b⟩
  have hl1 : l.length < 35184372088832 := by omega
  have hl2 : l.length ≤ 8388608 := by omega
  have hm1 : (l.map turnB).length < 35184372088832 := by rw [List.length_map]; omega
  have cF := says22 l
  have hF := place_find l
  obtain ⟨f, hf⟩ : ∃ f, findL l = f := ⟨_, rfl⟩
  rw [hf] at cF hF
  obtain ⟨q, t, z⟩ := f
  simp only at cF hF
  have cP := says24 q t
  have hP : (z = 0 ∧ Says 24 #[.bool q, str t] (str l)) ∨ z = 30 := by
    rcases hF with ⟨h1, h2, h3⟩ | h
    · left
      refine ⟨h1, ?_⟩
      have := cP (by omega)
      rw [h2] at this
      exact this
    · exact .inr h
  clear cP hF hf
  cases hp : pat l with
  | true =>
    have c18 := says18_ok l hp
    have c20 := says20_ok (l.map turnB) hm1 (by rw [turnL_turnL]; exact hp)
    rw [turnL_turnL] at c20
    have c24 := says24 false l hl2
    have c22 := says22 (tP ++ l)
    rw [find_place l hp] at c22
    simp only [roadP, Bool.false_eq_true, if_false] at c24 c22
    have hpp : Says 20 #[str l] (.tuple #[str [], .int .i64 30]) ∨ (Says 20 #[str l] (.tuple #[str (l.map turnB), .int .i64 0]) ∧ Says 18 #[str (l.map turnB)] (.tuple #[str l, .int .i64 0])) := by
      cases hd : pat (l.map turnB) with
      | false => exact .inl (says20_bad l hl1 hd)
      | true =>
        have := says18_ok (l.map turnB) hd
        rw [turnL_turnL] at this
        exact .inr ⟨says20_ok l hl1 hd, this⟩
    have hl : Hid (¬ (l.length : Int) > 4096) := hl
    generalize l.map turnB = m at *
    generalize tP ++ l = u at *
    clear hm1 hl1 hl2
    have hl := hl.out
    rcases hP with ⟨rfl, cP⟩ | rfl <;> rcases hpp with cD | ⟨cD, cS⟩
    · go_enter Tryd.func6, Tryd.ntmps6
      go_wp2_with fail
      refine (c9 w _ hs0).mono ?_
      rintro e1 w1 ⟨rfl, hs1⟩
      go_wp2_with fail
      refine (c18 w _ hs1).mono ?_
      rintro e2 w2 ⟨rfl, hs2⟩
      go_wp2_with fail
      refine (c20 w _ hs2).mono ?_
      rintro e3 w3 ⟨rfl, hs3⟩
      go_wp2_with fail
      refine (c24 w _ hs3).mono ?_
      rintro e4 w4 ⟨rfl, hs4⟩
      go_wp2_with fail
      refine (c22 w _ hs4).mono ?_
      rintro e5 w5 ⟨rfl, hs5⟩
      go_wp2_with fail
      refine (cD w _ hs5).mono ?_
      rintro e6 w6 ⟨rfl, hs6⟩
      go_wp2_with fail
      refine (cF w _ hs6).mono ?_
      rintro e7 w7 ⟨rfl, hs7⟩
      go_wp2_with fail
      refine (cP w _ hs7).mono ?_
      rintro e8 w8 ⟨rfl, hs8⟩
      go_wp2
      go_ret
      exact ⟨rfl, hs8.b⟩
    · go_enter Tryd.func6, Tryd.ntmps6
      go_wp2_with fail
      refine (c9 w _ hs0).mono ?_
      rintro e1 w1 ⟨rfl, hs1⟩
      go_wp2_with fail
      refine (c18 w _ hs1).mono ?_
      rintro e2 w2 ⟨rfl, hs2⟩
      go_wp2_with fail
      refine (c20 w _ hs2).mono ?_
      rintro e3 w3 ⟨rfl, hs3⟩
      go_wp2_with fail
      refine (c24 w _ hs3).mono ?_
      rintro e4 w4 ⟨rfl, hs4⟩
      go_wp2_with fail
      refine (c22 w _ hs4).mono ?_
      rintro e5 w5 ⟨rfl, hs5⟩
      go_wp2_with fail
      refine (cD w _ hs5).mono ?_
      rintro e6 w6 ⟨rfl, hs6⟩
      go_wp2_with fail
      refine (cS w _ hs6).mono ?_
      rintro e7 w7 ⟨rfl, hs7⟩
      go_wp2_with fail
      refine (cF w _ hs7).mono ?_
      rintro e8 w8 ⟨rfl, hs8⟩
      go_wp2_with fail
      refine (cP w _ hs8).mono ?_
      rintro e9 w9 ⟨rfl, hs9⟩
      go_wp2
      go_ret
      exact ⟨rfl, hs9.b⟩
    · go_enter Tryd.func6, Tryd.ntmps6
      go_wp2_with fail
      refine (c9 w _ hs0).mono ?_
      rintro e1 w1 ⟨rfl, hs1⟩
      go_wp2_with fail
      refine (c18 w _ hs1).mono ?_
      rintro e2 w2 ⟨rfl, hs2⟩
      go_wp2_with fail
      refine (c20 w _ hs2).mono ?_
      rintro e3 w3 ⟨rfl, hs3⟩
      go_wp2_with fail
      refine (c24 w _ hs3).mono ?_
      rintro e4 w4 ⟨rfl, hs4⟩
      go_wp2_with fail
      refine (c22 w _ hs4).mono ?_
      rintro e5 w5 ⟨rfl, hs5⟩
      go_wp2_with fail
      refine (cD w _ hs5).mono ?_
      rintro e6 w6 ⟨rfl, hs6⟩
      go_wp2_with fail
      refine (cF w _ hs6).mono ?_
      rintro e7 w7 ⟨rfl, hs7⟩
      go_wp2
      go_ret
      exact ⟨rfl, hs7.b⟩
    · go_enter Tryd.func6, Tryd.ntmps6
      go_wp2_with fail
      refine (c9 w _ hs0).mono ?_
      rintro e1 w1 ⟨rfl, hs1⟩
      go_wp2_with fail
      refine (c18 w _ hs1).mono ?_
      rintro e2 w2 ⟨rfl, hs2⟩
      go_wp2_with fail
      refine (c20 w _ hs2).mono ?_
      rintro e3 w3 ⟨rfl, hs3⟩
      go_wp2_with fail
      refine (c24 w _ hs3).mono ?_
      rintro e4 w4 ⟨rfl, hs4⟩
      go_wp2_with fail
      refine (c22 w _ hs4).mono ?_
      rintro e5 w5 ⟨rfl, hs5⟩
      go_wp2_with fail
      refine (cD w _ hs5).mono ?_
      rintro e6 w6 ⟨rfl, hs6⟩
      go_wp2_with fail
      refine (cS w _ hs6).mono ?_
      rintro e7 w7 ⟨rfl, hs7⟩
      go_wp2_with fail
      refine (cF w _ hs7).mono ?_
      rintro e8 w8 ⟨rfl, hs8⟩
      go_wp2
      go_ret
      exact ⟨rfl, hs8.b⟩
  | false =>
    have c18 := says18_bad l hp
    have hpp : Says 20 #[str l] (.tuple #[str [], .int .i64 30]) ∨ (Says 20 #[str l] (.tuple #[str (l.map turnB), .int .i64 0]) ∧ Says 18 #[str (l.map turnB)] (.tuple #[str l, .int .i64 0])) := by
      cases hd : pat (l.map turnB) with
      | false => exact .inl (says20_bad l hl1 hd)
      | true =>
        have := says18_ok (l.map turnB) hd
        rw [turnL_turnL] at this
        exact .inr ⟨says20_ok l hl1 hd, this⟩
    have hl : Hid (¬ (l.length : Int) > 4096) := hl
    generalize l.map turnB = m at *
    clear hm1 hl1 hl2
    have hl := hl.out
    rcases hP with ⟨rfl, cP⟩ | rfl <;> rcases hpp with cD | ⟨cD, cS⟩
    · go_enter Tryd.func6, Tryd.ntmps6
      go_wp2_with fail
      refine (c9 w _ hs0).mono ?_
      rintro e1 w1 ⟨rfl, hs1⟩
      go_wp2_with fail
      refine (c18 w _ hs1).mono ?_
      rintro e2 w2 ⟨rfl, hs2⟩
      go_wp2_with fail
      refine (cD w _ hs2).mono ?_
      rintro e3 w3 ⟨rfl, hs3⟩
      go_wp2_with fail
      refine (cF w _ hs3).mono ?_
      rintro e4 w4 ⟨rfl, hs4⟩
      go_wp2_with fail
      refine (cP w _ hs4).mono ?_
      rintro e5 w5 ⟨rfl, hs5⟩
      go_wp2
      go_ret
      exact ⟨rfl, hs5.b⟩
    · go_enter Tryd.func6, Tryd.ntmps6
      go_wp2_with fail
      refine (c9 w _ hs0).mono ?_
      rintro e1 w1 ⟨rfl, hs1⟩
      go_wp2_with fail
      refine (c18 w _ hs1).mono ?_
      rintro e2 w2 ⟨rfl, hs2⟩
      go_wp2_with fail
      refine (cD w _ hs2).mono ?_
      rintro e3 w3 ⟨rfl, hs3⟩
      go_wp2_with fail
      refine (cS w _ hs3).mono ?_
      rintro e4 w4 ⟨rfl, hs4⟩
      go_wp2_with fail
      refine (cF w _ hs4).mono ?_
      rintro e5 w5 ⟨rfl, hs5⟩
      go_wp2_with fail
      refine (cP w _ hs5).mono ?_
      rintro e6 w6 ⟨rfl, hs6⟩
      go_wp2
      go_ret
      exact ⟨rfl, hs6.b⟩
    · go_enter Tryd.func6, Tryd.ntmps6
      go_wp2_with fail
      refine (c9 w _ hs0).mono ?_
      rintro e1 w1 ⟨rfl, hs1⟩
      go_wp2_with fail
      refine (c18 w _ hs1).mono ?_
      rintro e2 w2 ⟨rfl, hs2⟩
      go_wp2_with fail
      refine (cD w _ hs2).mono ?_
      rintro e3 w3 ⟨rfl, hs3⟩
      go_wp2_with fail
      refine (cF w _ hs3).mono ?_
      rintro e4 w4 ⟨rfl, hs4⟩
      go_wp2
      go_ret
      exact ⟨rfl, hs4.b⟩
    · go_enter Tryd.func6, Tryd.ntmps6
      go_wp2_with fail
      refine (c9 w _ hs0).mono ?_
      rintro e1 w1 ⟨rfl, hs1⟩
      go_wp2_with fail
      refine (c18 w _ hs1).mono ?_
      rintro e2 w2 ⟨rfl, hs2⟩
      go_wp2_with fail
      refine (cD w _ hs2).mono ?_
      rintro e3 w3 ⟨rfl, hs3⟩
      go_wp2_with fail
      refine (cS w _ hs3).mono ?_
      rintro e4 w4 ⟨rfl, hs4⟩
      go_wp2_with fail
      refine (cF w _ hs4).mono ?_
      rintro e5 w5 ⟨rfl, hs5⟩
      go_wp2
      go_ret
      exact ⟨rfl, hs5.b⟩
end Go.Proofs.YtmbmidmipoomdaaDoor
