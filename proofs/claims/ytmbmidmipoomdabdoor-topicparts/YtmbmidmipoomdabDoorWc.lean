
/- What topic.turn, Slashes, Dots, Place and Find answer of any texts, and the law's wakes. Conditions: Vars, and texts that are not too long where a row says so. -/
import Derived.Test.YtmbmidmipoomdabDoorWb
import Derived.OwnWalk
import Derived.Laws.Concat
namespace Go.Proofs.YtmbmidmipoomdabDoor
open Go.RowKit Go.Lib

theorem e45 : ∀ args w, (callFunc 24 args).run Tryd.prog w = .ok (.enter 24 args) w := fun args w => by go_simp
theorem turnR_any (w : World) (z : Int) : Calls Tryd.prog 24 #[.int .i32 z] w fun e w' => e = .returned (.int .i32 (turnR z)) ∧ w' = w := by
  by_cases h1 : z = 46
  · subst h1
    go_enter Tryd.func24, Tryd.ntmps24
    go_wp2
    go_ret
    exact ⟨rfl, rfl⟩
  by_cases h2 : z = 47
  · subst h2
    go_enter Tryd.func24, Tryd.ntmps24
    go_wp2
    go_ret
    exact ⟨rfl, rfl⟩
  by_cases h3 : z = 42
  · subst h3
    go_enter Tryd.func24, Tryd.ntmps24
    go_wp2
    go_ret
    exact ⟨rfl, rfl⟩
  by_cases h4 : z = 43
  · subst h4
    go_enter Tryd.func24, Tryd.ntmps24
    go_wp2
    go_ret
    exact ⟨rfl, rfl⟩
  have e : turnR z = z := by unfold turnR; rw [if_neg h1, if_neg h2, if_neg h3, if_neg h4]
  rw [e]
  have h1 : (z == 46) = false := by rw [beq_eq_false_iff_ne]; exact h1
  have h2 : (z == 47) = false := by rw [beq_eq_false_iff_ne]; exact h2
  have h3 : (z == 42) = false := by rw [beq_eq_false_iff_ne]; exact h3
  have h4 : (z == 43) = false := by rw [beq_eq_false_iff_ne]; exact h4
  go_enter Tryd.func24, Tryd.ntmps24
  go_wp2
  go_ret
  exact ⟨rfl, rfl⟩
theorem map_turn (w : World) : MapAtRunes Tryd.prog 24 #[] turnR w := fun W x _ _ =>
  (turnR_any W (x : Int)).mono fun _ _ ⟨he, hw⟩ => ⟨he, 0, hw⟩
theorem turn_any (w : World) (hv : Vars w) (l : List UInt8) (hl : l.length < 35184372088832) : Calls Tryd.prog 16 #[str l] w fun e w' => e = .returned (str (Lib.mapD turnR l)) ∧ Below w.heap.size w w' := by
  have hc := Tryd.strings_Map_runes 24 #[] e45 turnR ⟨l.toArray⟩ w hl (map_turn w) (fun x hx => by unfold turnR; repeat' split; all_goals omega) hv.tabs
  rw [show (⟨l.toArray⟩ : ByteArray).data.toList = l from rfl] at hc
  generalize Lib.mapD turnR l = m at *
  go_enter Tryd.func16, Tryd.ntmps16
  go_wp2_with (go_at_call 23; refine hc.mono ?_; rintro e w' ⟨rfl, hb⟩)
  go_ret
  exact ⟨rfl, hb⟩

theorem slashes_ok (w : World) (hv : Vars w) (l : List UInt8) (h : pat l = true) : Calls Tryd.prog 9 #[str l] w fun e w' => e = .returned (.tuple #[str (l.map turnB), .int .i64 0]) ∧ Below w.heap.size w w' := by
  have hp := pattern_any w hv l
  rw [h] at hp
  have ht := fun W (hW : Vars W) => turn_any W hW l (by have := (pat_nums h).1; omega)
  rw [mapD_ascii l (pat_ascii h)] at ht
  generalize l.map turnB = m at *
  go_enter Tryd.func9, Tryd.ntmps9
  go_wp2_with fail
  refine hp.mono ?_
  rintro e1 w1 ⟨rfl, hb1⟩
  go_wp2_with fail
  refine (ht w1 (hv.below hb1)).mono ?_
  rintro e2 w2 ⟨rfl, hb2⟩
  go_wp2
  go_ret2
  exact ⟨rfl, nxt hb1 hb2⟩
theorem slashes_bad (w : World) (hv : Vars w) (l : List UInt8) (h : pat l = false) : Calls Tryd.prog 9 #[str l] w fun e w' => e = .returned (.tuple #[str [], .int .i64 30]) ∧ Below w.heap.size w w' := by
  have hp := pattern_any w hv l
  rw [h] at hp
  go_enter Tryd.func9, Tryd.ntmps9
  go_wp2_with fail
  refine hp.mono ?_
  rintro e1 w1 ⟨rfl, hb1⟩
  go_wp2
  go_ret2
  exact ⟨rfl, hb1⟩
def qP : List UInt8 := [47, 113, 117, 101, 117, 101, 47]
def tP : List UInt8 := [47, 116, 111, 112, 105, 99, 47]
def roadP (q : Bool) : List UInt8 := if q then qP else tP
attribute [-go_sem] run_string_add_if
/-- What Find answers: is it a queue, its text, the error. -/
def findL (l : List UInt8) : Bool × List UInt8 × Int :=
  if qP.isPrefixOf l && isW (l.drop 7) then (true, l.drop 7, 0) else if tP.isPrefixOf l && pat (l.drop 7) then (false, l.drop 7, 0) else (false, [], 30)
set_option maxRecDepth 10000 in
theorem wakes_any (w : World) (hv : Vars w) : Calls Tryd.prog 4 #[] w fun e w' => e = .returned (.bool true) ∧ Below w.heap.size w w' := by
  have h1 := slashes_ok w hv [97, 46, 42, 46, 35] (by decide)
  rw [show ([97, 46, 42, 46, 35] : List UInt8).map turnB = [97, 47, 43, 47, 35] by decide] at h1
  have h2 := fun W (hW : Vars W) => match_any W hW [97, 46, 35] [97]
  rw [show mat [97, 46, 35] [97] = true by decide] at h2
  have h3 := fun W (hW : Vars W) => match_any W hW [97, 46, 42] [97]
  rw [show mat [97, 46, 42] [97] = false by decide] at h3
  go_enter Tryd.func4, Tryd.ntmps4
  go_wp2_with fail
  refine h1.mono ?_
  rintro e1 w1 ⟨rfl, hb1⟩
  have hv1 := hv.below hb1
  go_wp2_with fail
  refine (h2 w1 hv1).mono ?_
  rintro e2 w2 ⟨rfl, hb2⟩
  go_wp2_with fail
  refine (h3 w2 (hv1.below hb2)).mono ?_
  rintro e3 w3 ⟨rfl, hb3⟩
  go_wp2
  go_ret
  exact ⟨rfl, nxt hb1 (nxt hb2 hb3)⟩
end Go.Proofs.YtmbmidmipoomdabDoor
