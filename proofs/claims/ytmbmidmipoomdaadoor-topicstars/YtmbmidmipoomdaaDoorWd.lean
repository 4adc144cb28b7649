/- The law TopicCovers walked: it answers true of any three texts. Condition: Vars, what the library's variables hold when the call begins. -/
import Derived.Test.YtmbmidmipoomdaaDoorWc
namespace Go.Proofs.YtmbmidmipoomdaaDoor
open Go.RowKit Go.Lib

/-- Where a law's walk stands: the variables as they were, nothing changed that was there. -/
structure St (w0 w : World) : Prop where
  v : Vars w
  b : Below w0.heap.size w0 w
theorem St.go {w0 w w' : World} (h : St w0 w) (hb : Below w.heap.size w w') : St w0 w' := ⟨h.v.below hb, nxt h.b hb⟩
/-- In every world: what is answered. -/
def Says (f : Nat) (args : Array Value) (v : Value) : Prop := ∀ w0 W, St w0 W → Calls Tryd.prog f args W fun e w' => e = .returned v ∧ St w0 w'
theorem says_of {f : Nat} {args : Array Value} {v : Value} (h : ∀ W, Vars W → Calls Tryd.prog f args W fun e w' => e = .returned v ∧ Below W.heap.size W w') : Says f args v :=
  fun _ W hs => (h W hs.v).mono fun _ _ ⟨he, hb⟩ => ⟨he, hs.go hb⟩
theorem says9 : Says 9 #[] (.bool true) := says_of fun W h => wakes_any W h
theorem says12 (l : List UInt8) : Says 12 #[str l] (.bool (pat l)) := says_of fun W h => pattern_any W h l
theorem says10 (l : List UInt8) : Says 10 #[str l] (.bool (good l)) := says_of fun W h => good_any W h l
theorem says16 (a b : List UInt8) : Says 16 #[str a, str b] (.bool (covers a b)) := says_of fun W h => cover_any W h a b
theorem says14 (a b : List UInt8) : Says 14 #[str a, str b] (.bool (mat a b)) := says_of fun W h => match_any W h a b

theorem covers_law (w : World) (hv : Vars w) (a b x : List UInt8) : Calls Tryd.prog 5 #[str a, str b, str x] w fun e w' => e = .returned (.bool true) ∧ Below w.heap.size w w' := by
  have hs0 : St w w := ⟨hv, Below.refl _ _⟩
  have c1 := says9
  have c2 := says12 a
  have c3 := says16 a a
  rw [covers_self] at c3
  have c4 := says16 a b
  have c5 := says14 b x
  have c6 := says14 a x
  have c7 := says16 b x
  have c8 := says16 a x
  have M1 := fun h1 h2 => mat_trans a b x h1 h2
  have M2 := fun h1 h2 => covers_trans a b x h1 h2
  generalize pat a = p at *
  generalize covers a b = q at *
  generalize mat b x = r at *
  generalize mat a x = s at *
  generalize covers b x = t at *
  generalize covers a x = u at *
  cases q with
  | false =>
    clear M1 M2
    go_enter Tryd.func5, Tryd.ntmps5
    go_wp2_with fail
    refine (c1 w _ hs0).mono ?_
    rintro e1 w1 ⟨rfl, hs1⟩
    go_wp2_with fail
    refine (c2 w _ hs1).mono ?_
    rintro e2 w2 ⟨rfl, hs2⟩
    go_wp2_with fail
    refine (c3 w _ hs2).mono ?_
    rintro e3 w3 ⟨rfl, hs3⟩
    go_wp2_with fail
    refine (c4 w _ hs3).mono ?_
    rintro e4 w4 ⟨rfl, hs4⟩
    go_wp2
    go_ret
    exact ⟨rfl, hs4.b⟩
  | true =>
    have M1 := M1 rfl
    have M2 := M2 rfl
    have M1 : r = false ∨ r = true ∧ s = true := by cases r <;> simp_all
    have M2 : t = false ∨ t = true ∧ u = true := by cases t <;> simp_all
    rcases M1 with rfl | ⟨rfl, rfl⟩ <;> rcases M2 with rfl | ⟨rfl, rfl⟩
    all_goals (
      go_enter Tryd.func5, Tryd.ntmps5
      go_wp2_with fail
      refine (c1 w _ hs0).mono ?_
      rintro e1 w1 ⟨rfl, hs1⟩
      go_wp2_with fail
      refine (c2 w _ hs1).mono ?_
      rintro e2 w2 ⟨rfl, hs2⟩
      go_wp2_with fail
      refine (c3 w _ hs2).mono ?_
      rintro e3 w3 ⟨rfl, hs3⟩
      go_wp2_with fail
      refine (c4 w _ hs3).mono ?_
      rintro e4 w4 ⟨rfl, hs4⟩
      go_wp2_with fail
      refine (c5 w _ hs4).mono ?_
      rintro e5 w5 ⟨rfl, hs5⟩
      go_wp2_with fail
      first
        | (refine (c6 w _ hs5).mono ?_
           rintro e6 w6 ⟨rfl, hs6⟩
           go_wp2_with fail
           refine (c7 w _ hs6).mono ?_
           rintro e7 w7 ⟨rfl, hs7⟩)
        | (refine (c7 w _ hs5).mono ?_
           rintro e7 w7 ⟨rfl, hs7⟩)
      go_wp2_with fail
      first
        | (refine (c8 w _ hs7).mono ?_
           rintro e8 w8 ⟨rfl, hs8⟩
           go_wp2
           go_ret
           exact ⟨rfl, hs8.b⟩)
        | (go_ret
           exact ⟨rfl, hs7.b⟩))
end Go.Proofs.YtmbmidmipoomdaaDoor
