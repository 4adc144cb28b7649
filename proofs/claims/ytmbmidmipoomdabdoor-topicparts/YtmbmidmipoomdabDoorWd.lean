/- The law TopicParts walked: it answers true of any two texts. Condition: Vars, what the library's variables hold when the call begins. -/
import Derived.Test.YtmbmidmipoomdabDoorWc
import Derived.Test.YtmbmidmipoomdabDoorRa
namespace Go.Proofs.YtmbmidmipoomdabDoor
open Go.RowKit Go.Lib
set_option maxRecDepth 10000

/-- Where a law's walk stands: the variables as they were, nothing changed that was there. -/
structure St (w0 w : World) : Prop where
  v : Vars w
  b : Below w0.heap.size w0 w
theorem St.go {w0 w w' : World} (h : St w0 w) (hb : Below w.heap.size w w') : St w0 w' := ⟨h.v.below hb, nxt h.b hb⟩
/-- In every world: what is answered. -/
def Says (f : Nat) (args : Array Value) (v : Value) : Prop := ∀ w0 W, St w0 W → Calls Tryd.prog f args W fun e w' => e = .returned v ∧ St w0 w'
theorem says_of {f : Nat} {args : Array Value} {v : Value} (h : ∀ W, Vars W → Calls Tryd.prog f args W fun e w' => e = .returned v ∧ Below W.heap.size W w') : Says f args v :=
  fun _ W hs => (h W hs.v).mono fun _ _ ⟨he, hb⟩ => ⟨he, hs.go hb⟩
theorem saysWakes : Says 4 #[] (.bool true) := says_of fun W h => wakes_any W h
theorem saysPat (l : List UInt8) : Says 7 #[str l] (.bool (pat l)) := says_of fun W h => pattern_any W h l
theorem saysGood (l : List UInt8) : Says 5 #[str l] (.bool (good l)) := says_of fun W h => good_any W h l
theorem saysMat (a b : List UInt8) : Says 8 #[str a, str b] (.bool (mat a b)) := says_of fun W h => match_any W h a b

attribute [-go_sem] run_string_add_if
set_option maxHeartbeats 4000000 in
theorem parts_law (w : World) (hv : Vars w) (a b : List UInt8) : Calls Tryd.prog 3 #[str a, str b] w fun e w' => e = .returned (.bool true) ∧ Below w.heap.size w w' := by
  have hs0 : St w w := ⟨hv, Below.refl _ _⟩
  have cK := saysWakes
  have cA := saysGood a
  have cB := saysGood b
  cases hga : good a with
  | false =>
    rw [hga] at cA
    go_enter Tryd.func3, Tryd.ntmps3
    go_wp2_with fail
    refine (cK w _ hs0).mono ?_
    rintro e1 w1 ⟨rfl, hs1⟩
    go_wp2_with fail
    refine (cA w _ hs1).mono ?_
    rintro e2 w2 ⟨rfl, hs2⟩
    go_wp2
    go_ret
    exact ⟨rfl, hs2.b⟩
  | true =>
    rw [hga] at cA
    cases hgb : good b with
    | false =>
      rw [hgb] at cB
      go_enter Tryd.func3, Tryd.ntmps3
      go_wp2_with fail
      refine (cK w _ hs0).mono ?_
      rintro e1 w1 ⟨rfl, hs1⟩
      go_wp2_with fail
      refine (cA w _ hs1).mono ?_
      rintro e2 w2 ⟨rfl, hs2⟩
      go_wp2_with fail
      refine (cB w _ hs2).mono ?_
      rintro e3 w3 ⟨rfl, hs3⟩
      go_wp2
      go_ret
      exact ⟨rfl, hs3.b⟩
    | true =>
      rw [hgb] at cB
      have ha := good_nums hga
      have hb := good_nums hgb
      have cW := fun W => words_any W a (by omega)
      have cV := fun W => words_any W b (by omega)
      have cT := saysGood (a ++ 46 :: b)
      have hT := good_two a b hga hgb
      have cP := saysPat (a ++ [46, 35])
      have HM : Hid (good (a ++ 46 :: b) = true → pat (a ++ [46, 35]) = true → Says 8 #[str (a ++ [46, 35]), str (a ++ 46 :: b)] (.bool true) ∧ Says 8 #[str (a ++ [46, 35]), str a] (.bool true)) := fun h1 h2 => by
        have m1 := saysMat (a ++ [46, 35]) (a ++ 46 :: b)
        have m2 := saysMat (a ++ [46, 35]) a
        rw [mat_two a b hga h1 h2] at m1
        rw [mat_one a hga h2] at m2
        exact ⟨m1, m2⟩
      have hA1 : ∀ W, (Op.stringOp .add ⟨a.toArray⟩ ⟨[46].toArray⟩).run Tryd.prog W = .ok (.string ⟨(a ++ [46]).toArray⟩) W := fun W => run_string_add_lists (P := Tryd.prog) (w := W) a [46] (by omega) (by decide)
      have hA2 : ∀ W, (Op.stringOp .add ⟨(a ++ [46]).toArray⟩ ⟨b.toArray⟩).run Tryd.prog W = .ok (.string ⟨(a ++ 46 :: b).toArray⟩) W := fun W => by
        have := run_string_add_lists (P := Tryd.prog) (w := W) (a ++ [46]) b (by rw [List.length_append]; simp; omega) (by omega)
        rw [this, List.append_assoc]; rfl
      have hA3 : ∀ W, (Op.stringOp .add ⟨a.toArray⟩ ⟨[46, 35].toArray⟩).run Tryd.prog W = .ok (.string ⟨(a ++ [46, 35]).toArray⟩) W := fun W => run_string_add_lists (P := Tryd.prog) (w := W) a [46, 35] (by omega) (by decide)
      obtain ⟨n, hn⟩ : ∃ n, (wordsL a).length = n := ⟨_, rfl⟩
      obtain ⟨m, hm⟩ : ∃ m, (wordsL b).length = m := ⟨_, rfl⟩
      simp only [hn, hm] at cW cV hT
      have hn8 : n ≤ 8 := by rw [← hn]; exact ha.2
      have hm8 : m ≤ 8 := by rw [← hm]; exact hb.2
      obtain ⟨ax, hax⟩ : ∃ ax, a ++ [46] = ax := ⟨_, rfl⟩
      obtain ⟨t, ht⟩ : ∃ t, a ++ 46 :: b = t := ⟨_, rfl⟩
      obtain ⟨h, hh⟩ : ∃ h, a ++ [46, 35] = h := ⟨_, rfl⟩
      simp only [hax, ht, hh] at hA1 hA2 hA3 cT hT cP HM
      clear hax ht hh hn hm
      have hx : (a.length : Int) ≤ 64 := by omega
      have hy : (b.length : Int) ≤ 64 := by omega
      clear ha hb
      have hT : Hid (good t = (decide (a.length + b.length + 1 ≤ 64) && decide (n + m ≤ 8))) := hT
      by_cases h64 : (a.length : Int) + (b.length : Int) + 1 ≤ 64
      · by_cases h8 : (n : Int) + (m : Int) ≤ 8
        · have hg : good t = true := by rw [hT.out, decide_eq_true (by omega), decide_eq_true (by omega)]; rfl
          rw [hg] at cT
          have HM := HM.out hg
          clear hT hg
          cases hp : pat h with
          | false =>
            rw [hp] at cP
            clear HM
            go_enter Tryd.func3, Tryd.ntmps3
            go_wp2_with fail
            refine (cK w _ hs0).mono ?_
            rintro e1 w1 ⟨rfl, hs1⟩
            go_wp2_with fail
            refine (cA w _ hs1).mono ?_
            rintro e2 w2 ⟨rfl, hs2⟩
            go_wp2_with fail
            refine (cB w _ hs2).mono ?_
            rintro e3 w3 ⟨rfl, hs3⟩
            go_wp2_with fail
            refine (cW w3).mono ?_
            rintro e4 w4 ⟨b4, c4, rfl, _, hb4, _⟩
            have hs4 := hs3.go hb4
            go_wp2_with fail
            refine (cV w4).mono ?_
            rintro e5 w5 ⟨b5, c5, rfl, _, hb5, _⟩
            have hs5 := hs4.go hb5
            go_wp2_with fail
            refine (cT w _ hs5).mono ?_
            rintro e6 w6 ⟨rfl, hs6⟩
            go_wp2_with fail
            refine (cP w _ hs6).mono ?_
            rintro e7 w7 ⟨rfl, hs7⟩
            go_wp2
            go_ret
            exact ⟨rfl, hs7.b⟩
          | true =>
            rw [hp] at cP
            obtain ⟨c1, c2⟩ := HM hp
            clear HM
            go_enter Tryd.func3, Tryd.ntmps3
            go_wp2_with fail
            refine (cK w _ hs0).mono ?_
            rintro e1 w1 ⟨rfl, hs1⟩
            go_wp2_with fail
            refine (cA w _ hs1).mono ?_
            rintro e2 w2 ⟨rfl, hs2⟩
            go_wp2_with fail
            refine (cB w _ hs2).mono ?_
            rintro e3 w3 ⟨rfl, hs3⟩
            go_wp2_with fail
            refine (cW w3).mono ?_
            rintro e4 w4 ⟨b4, c4, rfl, _, hb4, _⟩
            have hs4 := hs3.go hb4
            go_wp2_with fail
            refine (cV w4).mono ?_
            rintro e5 w5 ⟨b5, c5, rfl, _, hb5, _⟩
            have hs5 := hs4.go hb5
            go_wp2_with fail
            refine (cT w _ hs5).mono ?_
            rintro e6 w6 ⟨rfl, hs6⟩
            go_wp2_with fail
            refine (cP w _ hs6).mono ?_
            rintro e7 w7 ⟨rfl, hs7⟩
            go_wp2_with fail
            refine (c1 w _ hs7).mono ?_
            rintro e8 w8 ⟨rfl, hs8⟩
            go_wp2_with fail
            refine (c2 w _ hs8).mono ?_
            rintro e9 w9 ⟨rfl, hs9⟩
            go_wp2
            go_ret
            exact ⟨rfl, hs9.b⟩
        · have hg : good t = false := by rw [hT.out, decide_eq_false (by omega : ¬ n + m ≤ 8), Bool.and_false]
          rw [hg] at cT
          clear hT hg HM
          go_enter Tryd.func3, Tryd.ntmps3
          go_wp2_with fail
          refine (cK w _ hs0).mono ?_
          rintro e1 w1 ⟨rfl, hs1⟩
          go_wp2_with fail
          refine (cA w _ hs1).mono ?_
          rintro e2 w2 ⟨rfl, hs2⟩
          go_wp2_with fail
          refine (cB w _ hs2).mono ?_
          rintro e3 w3 ⟨rfl, hs3⟩
          go_wp2_with fail
          refine (cW w3).mono ?_
          rintro e4 w4 ⟨b4, c4, rfl, _, hb4, _⟩
          have hs4 := hs3.go hb4
          go_wp2_with fail
          refine (cV w4).mono ?_
          rintro e5 w5 ⟨b5, c5, rfl, _, hb5, _⟩
          have hs5 := hs4.go hb5
          go_wp2_with fail
          refine (cT w _ hs5).mono ?_
          rintro e6 w6 ⟨rfl, hs6⟩
          go_wp2
          go_ret
          exact ⟨rfl, hs6.b⟩
      · have hg : good t = false := by rw [hT.out, decide_eq_false (by omega : ¬ a.length + b.length + 1 ≤ 64), Bool.false_and]
        rw [hg] at cT
        clear hT hg HM
        go_enter Tryd.func3, Tryd.ntmps3
        go_wp2_with fail
        refine (cK w _ hs0).mono ?_
        rintro e1 w1 ⟨rfl, hs1⟩
        go_wp2_with fail
        refine (cA w _ hs1).mono ?_
        rintro e2 w2 ⟨rfl, hs2⟩
        go_wp2_with fail
        refine (cB w _ hs2).mono ?_
        rintro e3 w3 ⟨rfl, hs3⟩
        go_wp2_with fail
        refine (cW w3).mono ?_
        rintro e4 w4 ⟨b4, c4, rfl, _, hb4, _⟩
        have hs4 := hs3.go hb4
        go_wp2_with fail
        refine (cV w4).mono ?_
        rintro e5 w5 ⟨b5, c5, rfl, _, hb5, _⟩
        have hs5 := hs4.go hb5
        go_wp2_with fail
        refine (cT w _ hs5).mono ?_
        rintro e6 w6 ⟨rfl, hs6⟩
        go_wp2
        go_ret
        exact ⟨rfl, hs6.b⟩
end Go.Proofs.YtmbmidmipoomdabDoor
