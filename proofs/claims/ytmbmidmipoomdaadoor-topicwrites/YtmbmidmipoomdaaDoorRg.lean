/- What the document's Find answers of any text; the law TopicWrites walked: it answers true of any text and either kind. Condition: Vars, what the library's variables hold when the call begins. -/
import Derived.Test.YtmbmidmipoomdaaDoorRf
namespace Go.Proofs.YtmbmidmipoomdaaDoor
open Go.RowKit Go.Lib
set_option maxRecDepth 10000

theorem prefix_take (p l : List UInt8) (hp : p.length = 7) (hl : 7 ≤ l.length) : p.isPrefixOf l = (l.take 7 == p) := by
  rw [Bool.eq_iff_iff, List.isPrefixOf_iff_prefix, beq_iff_eq]
  constructor
  · rintro ⟨t, rfl⟩
    rw [← hp, List.take_left]
  · intro h
    exact ⟨l.drop 7, by rw [← h, List.take_append_drop]⟩
theorem prefix_short (p l : List UInt8) (hp : p.length = 7) (hl : l.length < 7) : p.isPrefixOf l = false := by
  rw [← Bool.not_eq_true, List.isPrefixOf_iff_prefix]
  rintro ⟨t, rfl⟩
  rw [List.length_append] at hl
  omega
theorem cut_head (l : List UInt8) (h : 7 ≤ l.length) (W : World) : (Instr.slice 9 (str l) none (some (.int .i64 7)) none).run Tryd.prog W = .ok (str (l.take 7)) W := by
  have h7 : (7 : Int) ≤ (l.length : Int) := by omega
  go_simp
  have hex : (⟨l.toArray⟩ : ByteArray).extract 0 7 = ⟨(l.take 7).toArray⟩ := by
    rw [← mk_bl (ByteArray.extract _ _ _)]
    congr 2
    show (ByteArray.extract _ _ _).data.toList = _
    rw [Lib.extract_data]
    rfl
  rw [hex]
theorem cut_tail (l : List UInt8) (h : 7 ≤ l.length) (W : World) : (Instr.slice 9 (str l) (some (.int .i64 7)) none none).run Tryd.prog W = .ok (str (l.drop 7)) W := by
  have h7 : (7 : Int) ≤ (l.length : Int) := by omega
  go_simp
  have hex : (⟨l.toArray⟩ : ByteArray).extract 7 l.length = ⟨(l.drop 7).toArray⟩ := by
    rw [← mk_bl (ByteArray.extract _ _ _)]
    congr 2
    show (ByteArray.extract _ _ _).data.toList = _
    rw [Lib.extract_data]
    show (l.drop 7).take (l.length - 7) = l.drop 7
    exact List.take_of_length_le (by rw [List.length_drop]; omega)
  rw [hex]

set_option maxHeartbeats 2000000 in
theorem rfind_any (w : World) (l : List UInt8) (hl : l.length ≤ 8000) : Calls Tryd.prog 23 #[str l] w fun e w' => e = .returned (.tuple #[.bool (findL l).1, str (findL l).2.1, .int .i64 (findL l).2.2]) ∧ Below w.heap.size w w' := by
  by_cases h7 : (l.length : Int) < 7
  · have e : findL l = (false, [], 30) := by
      unfold findL
      rw [prefix_short qP l rfl (by omega), prefix_short tP l rfl (by omega)]
      rfl
    rw [e]
    go_enter Tryd.func23, Tryd.ntmps23
    go_wp2
    go_ret3
    exact ⟨rfl, Below.refl _ _⟩
  · have h1 := cut_head l (by omega)
    have h2 := cut_tail l (by omega)
    have hn := fun W => rname_str W (l.drop 7) (by rw [List.length_drop]; omega)
    have hp := fun W => rpattern_any W (l.drop 7)
    unfold findL
    rw [prefix_take qP l rfl (by omega), prefix_take tP l rfl (by omega)]
    obtain ⟨d, hd⟩ : ∃ d, l.drop 7 = d := ⟨_, rfl⟩
    obtain ⟨u, hu⟩ : ∃ u, l.take 7 = u := ⟨_, rfl⟩
    simp only [hd, hu] at h1 h2 hn hp ⊢
    clear hd hu hl
    obtain ⟨q1, hq1⟩ : ∃ q1, (u == qP) = q1 := ⟨_, rfl⟩
    obtain ⟨t1, ht1⟩ : ∃ t1, (u == tP) = t1 := ⟨_, rfl⟩
    rw [hq1, ht1]
    generalize isW d = q2 at *
    generalize pat d = t2 at *
    unfold qP at hq1
    unfold tP at ht1
    cases q1 <;> cases q2 <;> cases t1 <;> cases t2 <;> simp only [Bool.false_eq_true, if_true, if_false, Bool.and_true, Bool.and_false, Bool.and_self] at hn hp ⊢
    all_goals (
      go_enter Tryd.func23, Tryd.ntmps23
      go_wp2_with fail
      go_region
      go_wp2_with (first | (go_at_call 27; refine (hn _).mono ?_; rintro e w' ⟨rfl, rfl⟩) | (go_at_call 13; refine (hp _).mono ?_; rintro e w' ⟨rfl, hb⟩))
      go_ret3
      first | exact ⟨rfl, (Below.refl _ _).drew⟩ | exact ⟨rfl, nxt (Below.refl _ _).drew hb⟩)

theorem says19_ok (l : List UInt8) (h : pat l = true) : Says 19 #[str l] (.tuple #[str (l.map turnB), .int .i64 0]) := says_of fun W _ => rslashes_ok W l h
theorem says19_bad (l : List UInt8) (h : pat l = false) : Says 19 #[str l] (.tuple #[str [], .int .i64 30]) := says_of fun W _ => rslashes_bad W l h
theorem says21 (l : List UInt8) (hl : l.length ≤ 8000) : Says 21 #[str l] (dotsV l) := says_of fun W _ => rdots_any W l hl
theorem says23 (l : List UInt8) (hl : l.length ≤ 8000) : Says 23 #[str l] (.tuple #[.bool (findL l).1, str (findL l).2.1, .int .i64 (findL l).2.2]) := says_of fun W _ => rfind_any W l hl

/-- Two calls that answer the same text and the same error. -/
theorem pair_slashes (l : List UInt8) : ∃ (m : List UInt8) (z : Int), Says 18 #[str l] (.tuple #[str m, .int .i64 z]) ∧ Says 19 #[str l] (.tuple #[str m, .int .i64 z]) := by
  cases h : pat l with
  | true => exact ⟨_, _, says18_ok l h, says19_ok l h⟩
  | false => exact ⟨_, _, says18_bad l h, says19_bad l h⟩
theorem pair_dots (l : List UInt8) (hl : l.length ≤ 8000) : ∃ (m : List UInt8) (z : Int), Says 20 #[str l] (.tuple #[str m, .int .i64 z]) ∧ Says 21 #[str l] (.tuple #[str m, .int .i64 z]) := by
  have h21 := says21 l hl
  unfold dotsV at h21
  rw [dotsOk_eq] at h21
  cases h : pat (l.map turnB) with
  | true => rw [h] at h21; exact ⟨_, _, says20_ok l (by omega) h, h21⟩
  | false => rw [h] at h21; exact ⟨_, _, says20_bad l (by omega) h, h21⟩

attribute [-go_sem] run_string_add_if
set_option maxHeartbeats 2000000 in
theorem writes_law (w : World) (hv : Vars w) (l : List UInt8) (q : Bool) : Calls Tryd.prog 4 #[str l, .bool q] w fun e w' => e = .returned (.bool true) ∧ Below w.heap.size w w' := by
  have hs0 : St w w := ⟨hv, Below.refl _ _⟩
  have c9 := says9
  by_cases hl : (l.length : Int) > 4096
  · go_enter Tryd.func4, Tryd.ntmps4
    go_wp2_with (go_at_call 9; refine (c9 w _ hs0).mono ?_; rintro e w' ⟨rfl, hs⟩)
    go_ret
    exact ⟨rfl, hs.b⟩
  obtain ⟨m1, z1, c1, c2⟩ := pair_slashes l
  obtain ⟨m2, z2, c3, c4⟩ := pair_dots l (by omega)
  have c5 := says22 l
  have c6 := says23 l (by omega)
  have c7 := says24 q l (by omega)
  have hA : ∀ W, _ := fun W => run_string_add_lists (P := Tryd.prog) (w := W) qP l (by decide) (by omega)
  have hB : ∀ W, _ := fun W => run_string_add_lists (P := Tryd.prog) (w := W) tP l (by decide) (by omega)
  generalize findL l = f at *
  obtain ⟨f1, f2, f3⟩ := f
  simp only at c5 c6
  obtain ⟨uq, huq⟩ : ∃ uq, qP ++ l = uq := ⟨_, rfl⟩
  obtain ⟨ut, hut⟩ : ∃ ut, tP ++ l = ut := ⟨_, rfl⟩
  simp only [huq, hut] at hA hB
  have c7 : Says 24 #[.bool q, str l] (str (if q then uq else ut)) := by
    rw [← huq, ← hut]
    cases q <;> exact c7
  unfold qP at hA
  unfold tP at hB
  clear huq hut
  cases q with
  | true =>
    simp only [if_true] at c7
    go_enter Tryd.func4, Tryd.ntmps4
    go_wp2_with fail
    refine (c9 w _ hs0).mono ?_
    rintro e1 w1 ⟨rfl, hs1⟩
    go_wp2_with fail
    refine (c1 w _ hs1).mono ?_
    rintro e2 w2 ⟨rfl, hs2⟩
    go_wp2_with fail
    refine (c2 w _ hs2).mono ?_
    rintro e3 w3 ⟨rfl, hs3⟩
    go_wp2_with fail
    refine (c3 w _ hs3).mono ?_
    rintro e4 w4 ⟨rfl, hs4⟩
    go_wp2_with fail
    refine (c4 w _ hs4).mono ?_
    rintro e5 w5 ⟨rfl, hs5⟩
    go_wp2_with fail
    refine (c5 w _ hs5).mono ?_
    rintro e6 w6 ⟨rfl, hs6⟩
    go_wp2_with fail
    refine (c6 w _ hs6).mono ?_
    rintro e7 w7 ⟨rfl, hs7⟩
    go_wp2_with fail
    refine (c7 w _ hs7).mono ?_
    rintro e8 w8 ⟨rfl, hs8⟩
    go_wp2
    go_ret
    exact ⟨rfl, hs8.b⟩
  | false =>
    simp only [Bool.false_eq_true, if_false] at c7
    go_enter Tryd.func4, Tryd.ntmps4
    go_wp2_with fail
    refine (c9 w _ hs0).mono ?_
    rintro e1 w1 ⟨rfl, hs1⟩
    go_wp2_with fail
    refine (c1 w _ hs1).mono ?_
    rintro e2 w2 ⟨rfl, hs2⟩
    go_wp2_with fail
    refine (c2 w _ hs2).mono ?_
    rintro e3 w3 ⟨rfl, hs3⟩
    go_wp2_with fail
    refine (c3 w _ hs3).mono ?_
    rintro e4 w4 ⟨rfl, hs4⟩
    go_wp2_with fail
    refine (c4 w _ hs4).mono ?_
    rintro e5 w5 ⟨rfl, hs5⟩
    go_wp2_with fail
    refine (c5 w _ hs5).mono ?_
    rintro e6 w6 ⟨rfl, hs6⟩
    go_wp2_with fail
    refine (c6 w _ hs6).mono ?_
    rintro e7 w7 ⟨rfl, hs7⟩
    go_wp2_with fail
    refine (c7 w _ hs7).mono ?_
    rintro e8 w8 ⟨rfl, hs8⟩
    go_wp2
    go_ret
    exact ⟨rfl, hs8.b⟩
end Go.Proofs.YtmbmidmipoomdaaDoor
