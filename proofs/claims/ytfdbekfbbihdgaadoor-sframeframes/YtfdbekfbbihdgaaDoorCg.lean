
/- Whether a header can stand, whether a frame can be; Encode. Conditions: those that each row states. -/
import Derived.Test.YtfdbekfbbihdgaaDoorCf
import Derived.Test.YtfdbekfbbihdgaaDoorCb
import Derived.Test.YtfdbekfbbihdgaaDoorSe
import Derived.BigQuiet
namespace Go.Proofs.YtfdbekfbbihdgaaDoor
open Go.RowKit Go.Lib
set_option maxRecDepth 100000
set_option linter.unusedSimpArgs false

theorem asc3 : ∀ (i : Nat), i < ([58, 13, 10] : Bs).length → (([58, 13, 10] : Bs).getD i 0).toNat < 128
  | 0, _ => by decide
  | 1, _ => by decide
  | 2, _ => by decide
theorem asc2 : ∀ (i : Nat), i < ([13, 10] : Bs).length → (([13, 10] : Bs).getD i 0).toNat < 128
  | 0, _ => by decide
  | 1, _ => by decide
set_option maxHeartbeats 2000000 in
theorem stand_any (w : World) (n t : Bs) (b : Bool) (hn : n.length ≤ 1000000000) (ht : t.length ≤ 1000000000) :
    Calls Tryd.prog 31 #[.agg #[str n, str t], .bool b] w fun e w' => e = .returned (.bool (stN b (n, t))) ∧ Below w.heap.size w w' := by
  have C3 : ∀ w, Calls Tryd.prog 41 #[str n, str [58, 13, 10]] w fun e w' => e = .returned (.bool (anyC n [58, 13, 10])) ∧ Below w.heap.size w w' := fun w => contains_any w n [58, 13, 10] (by decide) (by decide) asc3 hn
  have C2 : ∀ w, Calls Tryd.prog 41 #[str t, str [13, 10]] w fun e w' => e = .returned (.bool (anyC t [13, 10])) ∧ Below w.heap.size w w' := fun w => contains_any w t [13, 10] (by decide) (by decide) asc2 ht
  have HD : Hid (stN b (n, t) = (!decide (n = []) && (decide (n.length + t.length ≤ 16384) && (!b || (!anyC n [58, 13, 10] && !anyC t [13, 10]))))) := (rfl : stN b (n, t) = _)
  generalize stN b (n, t) = r at *
  have b0 := below_new w (.cells #[str n, str t] 42)
  have hq : w.heap.size < (w.alloc (.cells #[str n, str t] 42)).heap.size := by simp
  generalize ea : anyC n [58, 13, 10] = x1 at *
  generalize eb : anyC t [13, 10] = x2 at *
  clear ea eb
  have hw : wrap64 ((n.length : Int) + (t.length : Int)) = (n.length : Int) + (t.length : Int) := by unfold wrap64; omega
  by_cases h0 : n = []
  · subst h0
    have hr : r = false := by rw [HD.out]; rfl
    subst hr
    go_enter Tryd.func31, Tryd.ntmps31
    go_wp2_with fail
    go_ret
    exact ⟨rfl, b0⟩
  have hnb : (n == []) = false := by rw [beq_l]; simpa using h0
  by_cases h1 : 16384 < n.length + t.length
  · have hr : r = false := by rw [HD.out]; simp; omega
    subst hr
    have d1 : decide ((16384 : Int) < (n.length : Int) + (t.length : Int)) = true := by simp; omega
    go_enter Tryd.func31, Tryd.ntmps31
    go_wp2_with fail
    go_ret
    exact ⟨rfl, b0⟩
  have d1 : decide ((16384 : Int) < (n.length : Int) + (t.length : Int)) = false := by simp; omega
  have hr : r = (!b || (!x1 && !x2)) := by rw [HD.out]; simp [h0]; omega
  subst hr
  clear HD
  cases b with
  | false =>
    go_enter Tryd.func31, Tryd.ntmps31
    go_wp2_with fail
    go_ret
    exact ⟨rfl, b0⟩
  | true =>
    cases x1 with
    | true =>
      go_enter Tryd.func31, Tryd.ntmps31
      go_wp2_with (go_at_call 41; refine (C3 _).mono ?_; rintro e w1 ⟨rfl, hb1⟩)
      go_ret
      exact ⟨rfl, b0.trans (hb1.mono (by omega))⟩
    | false =>
      go_enter Tryd.func31, Tryd.ntmps31
      go_wp2_with (first | (go_at_call 41; refine (C3 _).mono ?_; rintro e w1 ⟨rfl, hb1⟩; have k1 := (Blk.new w #[str n, str t] 42).on hb1; have e1 := k1.cell 1; simp only [List.getElem?_toArray, List.getElem?_cons_zero, List.getElem?_cons_succ] at e1) | (go_at_call 41; refine (C2 _).mono ?_; rintro e w2 ⟨rfl, hb2⟩))
      go_ret
      exact ⟨rfl, b0.trans ((hb1.trans (hb2.mono hb1.size)).mono (by omega))⟩
end Go.Proofs.YtfdbekfbbihdgaaDoor
